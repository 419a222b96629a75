import Derived.Test.YtichhjfjcinjgaaGreatDoorM17
set_option maxHeartbeats 2000000
set_option maxRecDepth 100000
namespace Go.Proofs.YtichhjfjcinjgaaGreatDoor
open Go.RowKit
attribute [local go_sem ↓] Go.wp_at_zero Go.wp_at_succ
theorem Oc {w:World}{b:Nat}{v0 v1 v2 v3:Value}{t:TypeId} (hn:w.heap[b]?=some (.cells #[v0,v1,v2,v3] t (0,0))):w.cell? ⟨b,0,none⟩=some v0∧w.cell? ⟨b,1,none⟩=some v1∧w.cell? ⟨b,2,none⟩=some v2∧w.cell? ⟨b,3,none⟩=some v3 :=
 ⟨cell_of_row _ _ _ _ _ _ hn,cell_of_row _ _ _ _ _ _ hn,cell_of_row _ _ _ _ _ _ hn,cell_of_row _ _ _ _ _ _ hn⟩
def gd:ByteArray:=⟨#[32,61,32]⟩
def gw (n:Nat) (v:ByteArray×Int):List Nat:=aV n [v.1,gd,bI v.2,bC]
noncomputable def fX (n:Nat) (e:En):List Nat:=fa n 2147483647 e.res e.gone++e.aQ.flatMap (gw n)
theorem Bk {W w:World}{B bb dd ll:Nat}{L:List Nat}{n:Nat} (h:Pn W B bb dd L n w) (hP:iF W) (hF:iG W) {e:En}{vv vr vg:Value} (hv:Rl W vv e.aQ.length (qP e.aQ)) (hr:Rl W vr e.res.length (kQ e.res)) (hg:Rl W vg e.gone.length (bZ e.gone))
  (G1:e.res.length≤4096) (oD:∀r ∈ e.res,(-2147483648≤r.1∧r.1≤2147483647)∧(-2147483648≤r.2∧r.2≤2147483647)) (dM:e.gone.length≤4096) (ei:∀s ∈ e.gone,s.size≤1048576) (EG:∀v ∈ e.aQ,-2147483648≤v.2∧v.2≤2147483647) (hl:L.length+(fX n e).length≤1099511627776) :
  Calls Tryz.prog 91 #[.agg (eM bb dd ll),.agg #[.string e.name,vv,vr,vg]] w (u6 W B bb dd (L++fX n e) n w):=by
 have aM:=h.bi.lt.2
 have s1:=zJ w (.cells (eM bb dd ll) 89)
 have k1:=aK w (.cells (eM bb dd ll) 89)
 have k2:=aK (w.alloc (.cells (eM bb dd ll) 89)) (.cells #[.string e.name,vv,vr,vg] 67)
 rw[s1] at k2
 have sv:=(Below.heap_alloc (w.alloc (.cells (eM bb dd ll) 89)) (.cells #[.string e.name,vv,vr,vg] 67) _ (by rw[s1];omega)).trans k1
 have kR:Below w.heap.size w ((w.alloc (.cells (eM bb dd ll) 89)).alloc (.cells #[.string e.name,vv,vr,vg] 67)):=((zE _ _).alloc (zD _) _).alloc (by omega) _
 have hlen:(fX n e).length=(fa n 2147483647 e.res e.gone).length+(e.aQ.flatMap (gw n)).length:=by unfold fX;rw[zK]
 have HR:=al (nY (ll:=ll) (most:=2147483647) (h.below kR) hP hF hr hg G1 oD dM ei (by omega))
 unfold eM at sv k2 kR HR ⊢
 obtain ⟨V,hV⟩:∃V,(w.alloc (.cells #[bY bb dd,cw ll dd,cl bb] 89)).alloc (.cells #[.string e.name,vv,vr,vg] 67)=V:=⟨_,rfl⟩
 rw[hV] at sv k2 kR HR
 obtain ⟨c0,c1,c2,c3⟩:=Oc k2
 have p0:V.cell? ⟨w.heap.size,0,none⟩=some (bY bb dd):=cell_of_row _ _ _ _ _ _ sv
 have p1:V.cell? ⟨w.heap.size,1,none⟩=some (cw ll dd):=cell_of_row _ _ _ _ _ _ sv
 have p2:V.cell? ⟨w.heap.size,2,none⟩=some (cl bb):=cell_of_row _ _ _ _ _ _ sv
 obtain ⟨av,cv,rfl,Ap,gC⟩:=hv
 obtain ⟨ar,cr,rfl,-,-⟩:=hr
 obtain ⟨ag,cg,rfl,-,-⟩:=hg
 have HV:=al gC
 have Jq:=al (show Kp bb w V from Kp.below kR)
 have iH:=al sv
 have fD:=al k2
 have pa:=al (show w.heap.size≠bb by omega)
 have Xk:=al (show w.heap.size+1≠bb by omega)
 unfold bY cw cl at hV iH HR ⊢
 unfold bY at p0
 unfold cw at p1
 unfold cl at p2
 clear k1 sv k2 kR s1 aM h G1 oD dM ei hF hlen
 go_enter Tryz.func91,Tryz.ntmps91
 go_wp2_with fail
 refine (ab HR).mono ?_
 rintro e' w1 ⟨rfl,pH,lQ⟩
 have j1:=lQ _ _ _ _ (ab pa) (ab iH) (by decide)
 have j2:=lQ _ _ _ _ (ab Xk) (ab fD) (by decide)
 obtain ⟨d0,d1,d2,d3⟩:=Oc j2
 have vd:=al pH
 have yr:=al ((ab Jq).trans lQ)
 have qI:=al j1
 have Hl:=al hl
 have HvB:=al EG
 have Mz:Hid (∀w,Below W.heap.size W w→iF w):=fun w h=>hP.up h
 clear c0 c1 c2 c3 p0 p1 p2 pH lQ j1 j2 hl EG hP HR Jq iH fD hV
 go_wp2_with fail
 clear d0 d1 d2 d3
 go_loopg [5,15] e.aQ.length (fun gk _ v15 wr=>∃(i:Nat),v15=.int .i64 (i:Int)∧gk=e.aQ.length-i∧i≤e.aQ.length∧Hid (Pn W B bb dd (L++fa n 2147483647 e.res e.gone++(e.aQ.take i).flatMap (gw n)) n wr)∧Hid (Kp bb w wr)∧Hid (wr.heap[w.heap.size]?=some (.cells #[.func (.func 80) #[] #[.pointer (some ⟨bb,0,none⟩),.pointer (some ⟨dd,0,none⟩)],.func (.func 84) #[] #[.pointer (some ⟨ll,0,none⟩),.pointer (some ⟨dd,0,none⟩)],.func (.func 85) #[.pointer (some ⟨bb,0,none⟩)] #[]] 89 (0,0))))
 case atStart=>exact ⟨0,rfl,rfl,by omega,by rw[List.take_zero,List.flatMap_nil,List.append_nil];exact vd,yr,qI⟩
 case round =>
  obtain ⟨i,rfl,aU,hi,fC,fD,CL⟩:=hrel
  have bz:=al aU
  clear aU vd yr qI
  by_cases aM:i<e.aQ.length
  ·obtain ⟨g,o,rfl,hg,hc⟩:=ab HV (by omega)
   have hr:=List.getElem?_eq_getElem aM
   have cI:=List.getElem_mem aM
   obtain ⟨r,tW⟩:∃r,e.aQ[i]=r:=⟨_,rfl⟩
   rw[tW] at hr cI
   have x0:=((ab fC).bW.cell (p:=⟨g,o+(i*2+0),none⟩) hg).trans (hc _ _ (fG hr (j:=0) (by decide)))
   have x1:=((ab fC).bW.cell (p:=⟨g,o+(i*2+1),none⟩) hg).trans (hc _ _ (fG hr (j:=1) (by decide)))
   rw[Nat.add_zero] at x0
   rw[←Nat.add_assoc] at x1
   have j':(e.aQ.take (i+1)).flatMap (gw n)=(e.aQ.take i).flatMap (gw n)++gw n r:=by
    obtain ⟨H',rfl⟩:=zB hr
    rw[List.take_succ_eq_append_getElem H',List.flatMap_append]
    simp
   have fM:(L++fa n 2147483647 e.res e.gone++(e.aQ.take i).flatMap (gw n)).length+(gw n r).length≤1099511627776:=by
    have h1:(fX n e).length=(fa n 2147483647 e.res e.gone).length+((e.aQ.take (i+1)).flatMap (gw n)).length+((e.aQ.drop (i+1)).flatMap (gw n)).length:=by
     have e2:e.aQ.flatMap (gw n)=(e.aQ.take (i+1)).flatMap (gw n)++(e.aQ.drop (i+1)).flatMap (gw n):=by rw[←List.flatMap_append,List.take_append_drop]
     unfold fX
     rw[zK,e2,zK]
     omega
    rw[j',zK] at h1
    rw[zK,zK]
    have:=ab Hl
    omega
   have fp:=aK wr (.cells #[.string r.1,.int .i64 r.2] 74)
   have bG:Below wr.heap.size wr (wr.alloc (.cells #[.string r.1,.int .i64 r.2] 74)):=(zE _ _).alloc (zD _) _
   obtain ⟨X,hX⟩:∃X,wr.alloc (.cells #[.string r.1,.int .i64 r.2] 74)=X:=⟨_,rfl⟩
   rw[hX] at fp bG
   have A8:=(ab fC).below bG
   have jX:=(bG.block _ (zA (ab CL)).1).trans (ab CL)
   have ZF:(fun w':World=>w'.cell? ⟨w.heap.size,0,none⟩=some (.func (.func 80) #[] #[.pointer (some ⟨bb,0,none⟩),.pointer (some ⟨dd,0,none⟩)])∧w'.cell? ⟨wr.heap.size,0,none⟩=some (.string r.1)∧w'.cell? ⟨wr.heap.size,1,none⟩=some (.int .i64 r.2)) X:=⟨cell_of_row _ _ _ _ _ _ jX,cell_of_row _ _ _ _ _ _ fp,cell_of_row _ _ _ _ _ _ fp⟩
   have hT:(fun w':World=>w'.cell? ⟨w.heap.size,0,none⟩=some (.func (.func 80) #[] #[.pointer (some ⟨bb,0,none⟩),.pointer (some ⟨dd,0,none⟩)])∧w'.cell? ⟨wr.heap.size,0,none⟩=some (.string r.1)∧w'.cell? ⟨wr.heap.size,1,none⟩=some (.int .i64 r.2)) X.drew:=ZF
   have i0:(0:Int)≤(i:Int):=zH _
   have i1:(i:Int)<(e.aQ.length:Int):=by omega
   have bu:=al aM
   have tj:=al jX
   have ib:=al fp
   have AV:=al (show Kp bb w X from (ab fD).trans (Kp.below bG))
   have Qe:=al (fun w' (h:iF w')=>oB h r.2 (by have:=ab HvB r cI;omega) (by have:=ab HvB r cI;omega))
   have nU:=al fM
   have yl:=al j'
   have AQ:=al (show wr.heap.size≠bb by have:=(ab fC).bi.lt.2;omega)
   clear hc hr cI tW j' fM fp jX ZF aM
   go_upto_region 5 with fail
   refine wp_region_any (by kernel_rfl) (bK (z:=99) (T:=fun w'=>w'.cell? ⟨w.heap.size,0,none⟩=some (.func (.func 80) #[] #[.pointer (some ⟨bb,0,none⟩),.pointer (some ⟨dd,0,none⟩)])∧w'.cell? ⟨wr.heap.size,0,none⟩=some (.string r.1)∧w'.cell? ⟨wr.heap.size,1,none⟩=some (.int .i64 r.2)) _ _ _ _ ?_)
   try (change cc _ _ _ _ _ _ _ _ _ (World.drew _))
   refine aw 0 (.pointer (some ⟨w.heap.size,0,none⟩)) 19 rfl rfl (Or.inl ⟨by rfl,fun w' hw=>by obtain ⟨cO,cG,bM⟩:=hw;go_simp⟩) hT ?_
   simp only[Act.put,zL,zM,zN]
   refine aw 1 (.func (.func 80) #[] #[.pointer (some ⟨bb,0,none⟩),.pointer (some ⟨dd,0,none⟩)]) 20 rfl rfl (Or.inl ⟨by rfl,fun w' hw=>by obtain ⟨cO,cG,bM⟩:=hw;go_simp⟩) hT ?_
   simp only[Act.put,zL,zM,zN]
   refine aw 2 (.pointer (some ⟨wr.heap.size,0,none⟩)) 21 rfl rfl (Or.inl ⟨by rfl,fun w' hw=>by obtain ⟨cO,cG,bM⟩:=hw;go_simp⟩) hT ?_
   simp only[Act.put,zL,zM,zN]
   refine aw 3 (.string r.1) 22 rfl rfl (Or.inl ⟨by rfl,fun w' hw=>by obtain ⟨cO,cG,bM⟩:=hw;go_simp⟩) hT ?_
   simp only[Act.put,zL,zM,zN]
   refine aw 4 (.pointer (some ⟨wr.heap.size,1,none⟩)) 23 rfl rfl (Or.inl ⟨by rfl,fun w' hw=>by obtain ⟨cO,cG,bM⟩:=hw;go_simp⟩) hT ?_
   simp only[Act.put,zL,zM,zN]
   refine aw 5 (.int .i64 r.2) 24 rfl rfl (Or.inl ⟨by rfl,fun w' hw=>by obtain ⟨cO,cG,bM⟩:=hw;go_simp⟩) hT ?_
   simp only[Act.put,zL,zM,zN]
   refine aF 6 (by kernel_rfl) rfl (fun K hK=>?_)
   refine aO 25 rfl rfl 134 (fun vs=>by kernel_rfl) #[.tmp 24] #[3] rfl #[.int .i64 r.2] (by first|rfl|simp[Act.eval]) (ab Qe X.drew (ab Mz _ (below_drewN A8.bW 1))) ?_
   rintro e' w3 ⟨rfl,cE⟩
   have cE:Below X.heap.size X w3:=⟨cE.os,cE.tape,cE.output,cE.size,cE.block⟩
   have qy:=A8.below cE
   have sx:=(ab AV).trans (Kp.below cE)
   have yB:(fun w':World=>w'.cell? ⟨w.heap.size,0,none⟩=some (.func (.func 80) #[] #[.pointer (some ⟨bb,0,none⟩),.pointer (some ⟨dd,0,none⟩)])∧w'.cell? ⟨wr.heap.size,0,none⟩=some (.string r.1)∧w'.cell? ⟨wr.heap.size,1,none⟩=some (.int .i64 r.2)) w3:=⟨cell_of_row _ _ _ _ _ _ ((cE.block _ (zA (ab tj)).1).trans (ab tj)),cell_of_row _ _ _ _ _ _ ((cE.block _ (zA (ab ib)).1).trans (ab ib)),cell_of_row _ _ _ _ _ _ ((cE.block _ (zA (ab ib)).1).trans (ab ib))⟩
   refine ⟨_,rfl,hK _ _ ⟨fun _=>yB,?_⟩⟩
   clear hK K hT
   simp only[Act.put,zL,zM,zN]
   have gT:Below w3.heap.size w3 (w3.alloc (.cells #[.string r.1,.string ⟨#[32,61,32]⟩,.string (bI r.2),.string ⟨#[59]⟩] 9)):=(zE _ _).alloc (zD _) _
   have Bb:(fun w':World=>w'.cell? ⟨w.heap.size,0,none⟩=some (.func (.func 80) #[] #[.pointer (some ⟨bb,0,none⟩),.pointer (some ⟨dd,0,none⟩)])∧w'.cell? ⟨wr.heap.size,0,none⟩=some (.string r.1)∧w'.cell? ⟨wr.heap.size,1,none⟩=some (.int .i64 r.2)) (w3.alloc (.cells #[.string r.1,.string ⟨#[32,61,32]⟩,.string (bI r.2),.string ⟨#[59]⟩] 9)):=⟨cell_of_row _ _ _ _ _ _ (((Kp.below cE).trans (Kp.below gT)) _ _ _ _ (ab pa) (ab tj) (by decide)),cell_of_row _ _ _ _ _ _ (((Kp.below cE).trans (Kp.below gT)) _ _ _ _ (ab AQ) (ab ib) (by decide)),cell_of_row _ _ _ _ _ _ (((Kp.below cE).trans (Kp.below gT)) _ _ _ _ (ab AQ) (ab ib) (by decide))⟩
   refine aF 7 (by kernel_rfl) rfl (fun K hK=>?_)
   go_simp
   refine hK _ _ ⟨fun _=>Bb,?_⟩
   clear hK K
   refine aF 8 (by kernel_rfl) rfl (fun K hK=>?_)
   refine jF 27 20 rfl 80 #[] #[.pointer (some ⟨bb,0,none⟩),.pointer (some ⟨dd,0,none⟩)] (fun vs=>by kernel_rfl) #[.tmp 26] #[22] rfl (by first|rfl|simp[Act.eval]) #[.slice (some ⟨w3.heap.size,0,none⟩) 4 4,.pointer (some ⟨bb,0,none⟩),.pointer (some ⟨dd,0,none⟩)] (by first|rfl|simp[Act.eval]) (iy (qy.below gT) (l7 (ps:=[r.1,⟨#[32,61,32]⟩,bI r.2,⟨#[59]⟩]) (c:=4) rfl qy.bi.lt.2) (ab nU) (by simp)) (by rfl) ?_
   rintro e' w5 ⟨rfl,nc,jA⟩
   have jg:Kp bb X w5:=((Kp.below cE).trans (Kp.below gT)).trans jA
   have lN:=al (show Pn W B bb dd (L++fa n 2147483647 e.res e.gone++(e.aQ.take (i+1)).flatMap (gw n)) n w5 by rw[ab yl,←List.append_assoc];exact nc)
   have sf:=al ((ab AV).trans jg)
   have Fw:=al (jg _ _ _ _ (ab pa) (ab tj) (by decide))
   have uu:(fun w':World=>w'.cell? ⟨w.heap.size,0,none⟩=some (.func (.func 80) #[] #[.pointer (some ⟨bb,0,none⟩),.pointer (some ⟨dd,0,none⟩)])∧w'.cell? ⟨wr.heap.size,0,none⟩=some (.string r.1)∧w'.cell? ⟨wr.heap.size,1,none⟩=some (.int .i64 r.2)) w5:=⟨cell_of_row _ _ _ _ _ _ (ab Fw),cell_of_row _ _ _ _ _ _ (jg _ _ _ _ (ab AQ) (ab ib) (by decide)),cell_of_row _ _ _ _ _ _ (jg _ _ _ _ (ab AQ) (ab ib) (by decide))⟩
   refine ⟨_,rfl,hK _ _ ⟨fun _=>uu,?_⟩⟩
   clear hK K yB Bb uu nc jA jg cE gT qy sx A8 bG AV tj ib Qe nU yl fC fD CL
   simp only[Act.put,zL,zM,zN]
   refine aZ (by kernel_rfl) ?_
   go_wp2
   go_roundg (e.aQ.length-(i+1))
   case measure=>have:=ab bz;have:=ab bu;omega
   case rel=>exact ⟨i+1,by go_num,rfl,ab bu,lN,sf,Fw⟩
  ·obtain rfl:i=e.aQ.length:=by omega
   have uZ:=ab fC
   rw[List.take_length,List.append_assoc] at uZ
   have HE:=al (show u6 W B bb dd (L++fX n e) n w (.returned (.tuple #[])) wr from ⟨rfl,uZ,ab fD⟩)
   clear uZ fC fD
   go_wp2
   refine bodyPost_ret (results_none rfl _ _ _) rfl ?_
   exact ab HE
def eW:ByteArray:=⟨#[32]⟩
def bS (n:Nat) (d:Fd):List Nat:=aV n [qh d,eW,d.name,gd,bI d.num,bC]
def Rg (w:World) (u:Value) (g:List Fd) (bb:Nat):Prop:=∃h c cur,u=.slice (some ⟨h,0,none⟩) g.length c∧w.heap[h]?=some (.cells cur 42 (0,0))∧cur.toList.take (g.length*6)=fw g∧h≠bb
theorem Rg.kp {w w':World}{u:Value}{g:List Fd}{bb:Nat} (h:Rg w u g bb) (hk:Kp bb w w'):Rg w' u g bb:=by
 obtain ⟨a,c,cur,h1,h2,h3,h4⟩:=h
 exact ⟨a,c,cur,h1,hk _ _ _ _ h4 h2 (by decide),h3,h4⟩
theorem wk {W w:World}{B bb dd ll qb qp:Nat}{L:List Nat}{n:Nat} (h:Pn W B bb dd L n w) (hP:iF W) {u:Value}{g:List Fd} (hq:w.heap[qb]?=some (.cells #[u] 43 (0,0))) (hp:w.heap[qp]?=some (.cells (eM bb dd ll) 89 (0,0))) (Px:qp≠bb) (hg:Rg w u g bb)
  (hgl:g.length≤4096) (ei:∀d ∈ g,(0≤d.num∧d.num≤2147483647)∧d.key.size≤255∧d.ty.size≤255) (hl:L.length+(g.flatMap (bS n)).length≤1099511627776) :
  Calls Tryz.prog 132 #[.pointer (some ⟨qb,0,none⟩),.pointer (some ⟨qp,0,none⟩)] w (u6 W B bb dd (L++g.flatMap (bS n)) n w):=by
 have q0:w.cell? ⟨qb,0,none⟩=some u:=cell_of_row _ _ _ _ _ _ hq
 obtain ⟨gh,gc,cur,rfl,Ck,Zt,PF⟩:=hg
 have Jk:=al h
 have S9:=al hp
 have HG0:=al Ck
 have Hgt:=al Zt
 have Hgn:=al PF
 have pa:=al Px
 have Hl:=al hl
 have HdB:=al ei
 have Mz:Hid (∀w,Below W.heap.size W w→iF w):=fun w h=>hP.up h
 unfold eM bY cw cl at S9
 clear h hp Ck Zt PF Px hl ei hP hq
 go_enter Tryz.func132,Tryz.ntmps132
 go_wp2_with fail
 clear q0
 go_loopg [3,6] g.length (fun gk _ v6 wr=>∃(i:Nat),v6=.int .i64 (i:Int)∧gk=g.length-i∧i≤g.length∧Hid (Pn W B bb dd (L++(g.take i).flatMap (bS n)) n wr)∧Hid (Kp bb w wr))
 case atStart=>exact ⟨0,rfl,rfl,by omega,by rw[List.take_zero,List.flatMap_nil,List.append_nil];exact Jk,Kp.refl _ _⟩
 case round =>
  obtain ⟨i,rfl,aU,hi,fC,fD⟩:=hrel
  have bz:=al aU
  clear aU Jk
  by_cases aM:i<g.length
  ·have hr:=List.getElem?_eq_getElem aM
   have cI:=List.getElem_mem aM
   obtain ⟨r,tW⟩:∃r,g[i]=r:=⟨_,rfl⟩
   rw[tW] at hr cI
   have ZO:=ab fD _ _ _ _ (ab Hgn) (ab HG0) (by decide)
   have Wy:=ab fD _ _ _ _ (ab pa) (ab S9) (by decide)
   have qB:∀j,j<6→wr.cell? ⟨gh,i*6+j,none⟩=r.cs[j]?:=by
    intro j hj
    rw[cell_of_row _ _ _ _ _ _ ZO,←Array.getElem?_toList]
    have e1:=cA hr hj
    rw[←ab Hgt,List.getElem?_take] at e1
    rw[if_pos (by omega)] at e1
    exact e1
   have j':(g.take (i+1)).flatMap (bS n)=(g.take i).flatMap (bS n)++bS n r:=by
    obtain ⟨H',rfl⟩:=zB hr
    rw[List.take_succ_eq_append_getElem H',List.flatMap_append]
    simp
   have fM:(L++(g.take i).flatMap (bS n)).length+(bS n r).length≤1099511627776:=by
    have e2:g.flatMap (bS n)=(g.take (i+1)).flatMap (bS n)++(g.drop (i+1)).flatMap (bS n):=by rw[←List.flatMap_append,List.take_append_drop]
    have h1:=congrArg List.length e2
    rw[j',zK,zK] at h1
    rw[zK]
    have:=ab Hl
    omega
   have Cn:=ab HdB r cI
   obtain ⟨aP,key,ty,nm,num,aE⟩:=r
   unfold Fd.cs at qB
   simp only at Cn
   have x0:=qB 0 (by decide)
   have x1:=qB 1 (by decide)
   have x2:=qB 2 (by decide)
   have x3:=qB 3 (by decide)
   have x4:=qB 4 (by decide)
   have x5:=qB 5 (by decide)
   rw[Nat.add_zero] at x0
   simp only[List.getElem?_cons_zero,List.getElem?_cons_succ] at x0 x1 x2 x3 x4 x5
   obtain ⟨-,fp,bG⟩:=jS wr aP num aE key ty nm
   obtain ⟨X,hX⟩:∃X,wr.alloc (.cells #[.int .i64 aP,.string key,.string ty,.string nm,.int .i64 num,.int .i64 aE] 42)=X:=⟨_,rfl⟩
   rw[hX] at fp bG
   have A8:=(ab fC).below bG
   have jX:=(bG.block _ (zA Wy).1).trans Wy
   have hT:(fun w':World=>w'.cell? ⟨qp,0,none⟩=some (.func (.func 80) #[] #[.pointer (some ⟨bb,0,none⟩),.pointer (some ⟨dd,0,none⟩)])∧w'.cell? ⟨wr.heap.size,0,none⟩=some (.int .i64 aP)∧w'.cell? ⟨wr.heap.size,1,none⟩=some (.string key)∧w'.cell? ⟨wr.heap.size,2,none⟩=some (.string ty)∧w'.cell? ⟨wr.heap.size,3,none⟩=some (.string nm)∧w'.cell? ⟨wr.heap.size,4,none⟩=some (.int .i64 num)∧w'.cell? ⟨wr.heap.size,5,none⟩=some (.int .i64 aE)) X.drew:=⟨cell_of_row _ _ _ _ _ _ (jX),cell_of_row _ _ _ _ _ _ (fp),cell_of_row _ _ _ _ _ _ (fp),cell_of_row _ _ _ _ _ _ (fp),cell_of_row _ _ _ _ _ _ (fp),cell_of_row _ _ _ _ _ _ (fp),cell_of_row _ _ _ _ _ _ (fp)⟩
   have i0:(0:Int)≤(i:Int):=zH _
   have i1:(i:Int)<(g.length:Int):=by omega
   have bu:=al aM
   have tj:=al jX
   have ib:=al fp
   have AV:=al (show Kp bb w X from (ab fD).trans (Kp.below bG))
   have T0:=al (fun w'=>xd (W:=w') ⟨aP,key,ty,nm,num,aE⟩ Cn.2.1 Cn.2.2)
   have Qe:=al (fun w' (h:iF w')=>oB h num (by omega) (by omega))
   have nU:=al fM
   have yl:=al j'
   have AQ:=al (show wr.heap.size≠bb by have:=(ab fC).bi.lt.2;omega)
   obtain ⟨tt,LZ⟩:∃t,qh ⟨aP,key,ty,nm,num,aE⟩=t:=⟨_,rfl⟩
   obtain ⟨ti,VI⟩:∃t,bI num=t:=⟨_,rfl⟩
   have Xx:Hid (bS n ⟨aP,key,ty,nm,num,aE⟩=aV n [tt,⟨#[32]⟩,nm,⟨#[32,61,32]⟩,ti,⟨#[59]⟩]):=by unfold bS eW gd bC;rw[LZ];simp only;rw[VI];rfl
   rw[LZ] at T0
   rw[VI] at Qe
   unfold Fd.cs at T0
   clear hr cI tW j' fM fp jX aM qB ZO Wy Cn LZ VI
   go_upto_region 3 with fail
   refine wp_region_any (by kernel_rfl) (bK (z:=99) (T:=fun w'=>w'.cell? ⟨qp,0,none⟩=some (.func (.func 80) #[] #[.pointer (some ⟨bb,0,none⟩),.pointer (some ⟨dd,0,none⟩)])∧w'.cell? ⟨wr.heap.size,0,none⟩=some (.int .i64 aP)∧w'.cell? ⟨wr.heap.size,1,none⟩=some (.string key)∧w'.cell? ⟨wr.heap.size,2,none⟩=some (.string ty)∧w'.cell? ⟨wr.heap.size,3,none⟩=some (.string nm)∧w'.cell? ⟨wr.heap.size,4,none⟩=some (.int .i64 num)∧w'.cell? ⟨wr.heap.size,5,none⟩=some (.int .i64 aE)) _ _ _ _ ?_)
   try (change cc _ _ _ _ _ _ _ _ _ (World.drew _))
   refine aw 0 (.pointer (some ⟨qp,0,none⟩)) 10 rfl rfl (Or.inl ⟨by rfl,fun w' hw=>by obtain ⟨cO,cG,bM,c8,eG,eN,eF⟩:=hw;go_simp⟩) hT ?_
   simp only[Act.put,zL,zM,zN]
   refine aw 1 (.func (.func 80) #[] #[.pointer (some ⟨bb,0,none⟩),.pointer (some ⟨dd,0,none⟩)]) 11 rfl rfl (Or.inl ⟨by rfl,fun w' hw=>by obtain ⟨cO,cG,bM,c8,eG,eN,eF⟩:=hw;go_simp⟩) hT ?_
   simp only[Act.put,zL,zM,zN]
   refine aw 2 (.agg #[.int .i64 aP,.string key,.string ty,.string nm,.int .i64 num,.int .i64 aE]) 12 rfl rfl (Or.inl ⟨by rfl,fun w' hw=>by obtain ⟨cO,cG,bM,c8,eG,eN,eF⟩:=hw;go_simp⟩) hT ?_
   simp only[Act.put,zL,zM,zN]
   refine aw 4 (.pointer (some ⟨wr.heap.size,3,none⟩)) 14 rfl rfl (Or.inl ⟨by rfl,fun w' hw=>by obtain ⟨cO,cG,bM,c8,eG,eN,eF⟩:=hw;go_simp⟩) hT ?_
   simp only[Act.put,zL,zM,zN]
   refine aw 5 (.string nm) 15 rfl rfl (Or.inl ⟨by rfl,fun w' hw=>by obtain ⟨cO,cG,bM,c8,eG,eN,eF⟩:=hw;go_simp⟩) hT ?_
   simp only[Act.put,zL,zM,zN]
   refine aw 6 (.pointer (some ⟨wr.heap.size,4,none⟩)) 16 rfl rfl (Or.inl ⟨by rfl,fun w' hw=>by obtain ⟨cO,cG,bM,c8,eG,eN,eF⟩:=hw;go_simp⟩) hT ?_
   simp only[Act.put,zL,zM,zN]
   refine aw 7 (.int .i64 num) 17 rfl rfl (Or.inl ⟨by rfl,fun w' hw=>by obtain ⟨cO,cG,bM,c8,eG,eN,eF⟩:=hw;go_simp⟩) hT ?_
   simp only[Act.put,zL,zM,zN]
   refine aF 3 (by kernel_rfl) rfl (fun K hK=>?_)
   refine aO 13 rfl rfl 133 (fun vs=>by kernel_rfl) #[.tmp 12] #[42] rfl #[.agg #[.int .i64 aP,.string key,.string ty,.string nm,.int .i64 num,.int .i64 aE]] (by first|rfl|simp[Act.eval]) (ab T0 X.drew) ?_
   rintro e' w3 ⟨rfl,cE⟩
   have cE:Below X.heap.size X w3:=⟨cE.os,cE.tape,cE.output,cE.size,cE.block⟩
   have qy:=A8.below cE
   have yB:(fun w':World=>w'.cell? ⟨qp,0,none⟩=some (.func (.func 80) #[] #[.pointer (some ⟨bb,0,none⟩),.pointer (some ⟨dd,0,none⟩)])∧w'.cell? ⟨wr.heap.size,0,none⟩=some (.int .i64 aP)∧w'.cell? ⟨wr.heap.size,1,none⟩=some (.string key)∧w'.cell? ⟨wr.heap.size,2,none⟩=some (.string ty)∧w'.cell? ⟨wr.heap.size,3,none⟩=some (.string nm)∧w'.cell? ⟨wr.heap.size,4,none⟩=some (.int .i64 num)∧w'.cell? ⟨wr.heap.size,5,none⟩=some (.int .i64 aE)) w3:=⟨cell_of_row _ _ _ _ _ _ ((cE.block _ (zA (ab tj)).1).trans (ab tj)),cell_of_row _ _ _ _ _ _ ((cE.block _ (zA (ab ib)).1).trans (ab ib)),cell_of_row _ _ _ _ _ _ ((cE.block _ (zA (ab ib)).1).trans (ab ib)),cell_of_row _ _ _ _ _ _ ((cE.block _ (zA (ab ib)).1).trans (ab ib)),cell_of_row _ _ _ _ _ _ ((cE.block _ (zA (ab ib)).1).trans (ab ib)),cell_of_row _ _ _ _ _ _ ((cE.block _ (zA (ab ib)).1).trans (ab ib)),cell_of_row _ _ _ _ _ _ ((cE.block _ (zA (ab ib)).1).trans (ab ib))⟩
   refine ⟨_,rfl,hK _ _ ⟨fun _=>yB,?_⟩⟩
   clear hK K hT
   simp only[Act.put,zL,zM,zN]
   refine aF 8 (by kernel_rfl) rfl (fun K hK=>?_)
   refine aO 18 rfl rfl 134 (fun vs=>by kernel_rfl) #[.tmp 17] #[3] rfl #[.int .i64 num] (by first|rfl|simp[Act.eval]) (ab Qe w3 (ab Mz _ qy.bW)) ?_
   rintro e' w6 ⟨rfl,oL⟩
   have oL:Below X.heap.size X w6:=cE.trans (oL.mono cE.size)
   have Nw:=A8.below oL
   have JA:(fun w':World=>w'.cell? ⟨qp,0,none⟩=some (.func (.func 80) #[] #[.pointer (some ⟨bb,0,none⟩),.pointer (some ⟨dd,0,none⟩)])∧w'.cell? ⟨wr.heap.size,0,none⟩=some (.int .i64 aP)∧w'.cell? ⟨wr.heap.size,1,none⟩=some (.string key)∧w'.cell? ⟨wr.heap.size,2,none⟩=some (.string ty)∧w'.cell? ⟨wr.heap.size,3,none⟩=some (.string nm)∧w'.cell? ⟨wr.heap.size,4,none⟩=some (.int .i64 num)∧w'.cell? ⟨wr.heap.size,5,none⟩=some (.int .i64 aE)) w6:=⟨cell_of_row _ _ _ _ _ _ ((oL.block _ (zA (ab tj)).1).trans (ab tj)),cell_of_row _ _ _ _ _ _ ((oL.block _ (zA (ab ib)).1).trans (ab ib)),cell_of_row _ _ _ _ _ _ ((oL.block _ (zA (ab ib)).1).trans (ab ib)),cell_of_row _ _ _ _ _ _ ((oL.block _ (zA (ab ib)).1).trans (ab ib)),cell_of_row _ _ _ _ _ _ ((oL.block _ (zA (ab ib)).1).trans (ab ib)),cell_of_row _ _ _ _ _ _ ((oL.block _ (zA (ab ib)).1).trans (ab ib)),cell_of_row _ _ _ _ _ _ ((oL.block _ (zA (ab ib)).1).trans (ab ib))⟩
   refine ⟨_,rfl,hK _ _ ⟨fun _=>JA,?_⟩⟩
   clear hK K yB qy cE
   simp only[Act.put,zL,zM,zN]
   have gT:Below w6.heap.size w6 (w6.alloc (.cells #[.string tt,.string ⟨#[32]⟩,.string nm,.string ⟨#[32,61,32]⟩,.string ti,.string ⟨#[59]⟩] 9)):=(zE _ _).alloc (zD _) _
   have ni:Kp bb X (w6.alloc (.cells #[.string tt,.string ⟨#[32]⟩,.string nm,.string ⟨#[32,61,32]⟩,.string ti,.string ⟨#[59]⟩] 9)):=(Kp.below oL).trans (Kp.below gT)
   have Bb:(fun w':World=>w'.cell? ⟨qp,0,none⟩=some (.func (.func 80) #[] #[.pointer (some ⟨bb,0,none⟩),.pointer (some ⟨dd,0,none⟩)])∧w'.cell? ⟨wr.heap.size,0,none⟩=some (.int .i64 aP)∧w'.cell? ⟨wr.heap.size,1,none⟩=some (.string key)∧w'.cell? ⟨wr.heap.size,2,none⟩=some (.string ty)∧w'.cell? ⟨wr.heap.size,3,none⟩=some (.string nm)∧w'.cell? ⟨wr.heap.size,4,none⟩=some (.int .i64 num)∧w'.cell? ⟨wr.heap.size,5,none⟩=some (.int .i64 aE)) (w6.alloc (.cells #[.string tt,.string ⟨#[32]⟩,.string nm,.string ⟨#[32,61,32]⟩,.string ti,.string ⟨#[59]⟩] 9)):=⟨cell_of_row _ _ _ _ _ _ (ni _ _ _ _ (ab pa) (ab tj) (by decide)),cell_of_row _ _ _ _ _ _ (ni _ _ _ _ (ab AQ) (ab ib) (by decide)),cell_of_row _ _ _ _ _ _ (ni _ _ _ _ (ab AQ) (ab ib) (by decide)),cell_of_row _ _ _ _ _ _ (ni _ _ _ _ (ab AQ) (ab ib) (by decide)),cell_of_row _ _ _ _ _ _ (ni _ _ _ _ (ab AQ) (ab ib) (by decide)),cell_of_row _ _ _ _ _ _ (ni _ _ _ _ (ab AQ) (ab ib) (by decide)),cell_of_row _ _ _ _ _ _ (ni _ _ _ _ (ab AQ) (ab ib) (by decide))⟩
   refine aF 9 (by kernel_rfl) rfl (fun K hK=>?_)
   go_simp
   refine hK _ _ ⟨fun _=>Bb,?_⟩
   clear hK K
   refine aF 10 (by kernel_rfl) rfl (fun K hK=>?_)
   refine jF 20 11 rfl 80 #[] #[.pointer (some ⟨bb,0,none⟩),.pointer (some ⟨dd,0,none⟩)] (fun vs=>by kernel_rfl) #[.tmp 19] #[22] rfl (by first|rfl|simp[Act.eval]) #[.slice (some ⟨w6.heap.size,0,none⟩) 6 6,.pointer (some ⟨bb,0,none⟩),.pointer (some ⟨dd,0,none⟩)] (by first|rfl|simp[Act.eval]) (iy (Nw.below gT) (l7 (ps:=[tt,⟨#[32]⟩,nm,⟨#[32,61,32]⟩,ti,⟨#[59]⟩]) (c:=6) rfl Nw.bi.lt.2) (by rw[←ab Xx];exact ab nU) (by simp)) (by rfl) ?_
   rintro e' w5 ⟨rfl,nc,jA⟩
   have jg:Kp bb X w5:=ni.trans jA
   have lN:=al (show Pn W B bb dd (L++(g.take (i+1)).flatMap (bS n)) n w5 by rw[ab yl,←List.append_assoc,ab Xx];exact nc)
   have sf:=al ((ab AV).trans jg)
   have uu:(fun w':World=>w'.cell? ⟨qp,0,none⟩=some (.func (.func 80) #[] #[.pointer (some ⟨bb,0,none⟩),.pointer (some ⟨dd,0,none⟩)])∧w'.cell? ⟨wr.heap.size,0,none⟩=some (.int .i64 aP)∧w'.cell? ⟨wr.heap.size,1,none⟩=some (.string key)∧w'.cell? ⟨wr.heap.size,2,none⟩=some (.string ty)∧w'.cell? ⟨wr.heap.size,3,none⟩=some (.string nm)∧w'.cell? ⟨wr.heap.size,4,none⟩=some (.int .i64 num)∧w'.cell? ⟨wr.heap.size,5,none⟩=some (.int .i64 aE)) w5:=⟨cell_of_row _ _ _ _ _ _ (jg _ _ _ _ (ab pa) (ab tj) (by decide)),cell_of_row _ _ _ _ _ _ (jg _ _ _ _ (ab AQ) (ab ib) (by decide)),cell_of_row _ _ _ _ _ _ (jg _ _ _ _ (ab AQ) (ab ib) (by decide)),cell_of_row _ _ _ _ _ _ (jg _ _ _ _ (ab AQ) (ab ib) (by decide)),cell_of_row _ _ _ _ _ _ (jg _ _ _ _ (ab AQ) (ab ib) (by decide)),cell_of_row _ _ _ _ _ _ (jg _ _ _ _ (ab AQ) (ab ib) (by decide)),cell_of_row _ _ _ _ _ _ (jg _ _ _ _ (ab AQ) (ab ib) (by decide))⟩
   refine ⟨_,rfl,hK _ _ ⟨fun _=>uu,?_⟩⟩
   clear hK K JA Bb uu nc jA jg oL gT Nw ni A8 bG AV tj ib Qe T0 nU yl Xx fC fD
   simp only[Act.put,zL,zM,zN]
   refine aZ (by kernel_rfl) ?_
   go_wp2
   go_roundg (g.length-(i+1))
   case measure=>have:=ab bz;have:=ab bu;omega
   case rel=>exact ⟨i+1,by go_num,rfl,ab bu,lN,sf⟩
  ·obtain rfl:i=g.length:=by omega
   have uZ:=ab fC
   rw[List.take_length] at uZ
   have HE:=al (show u6 W B bb dd (L++g.flatMap (bS n)) n w (.returned (.tuple #[])) wr from ⟨rfl,uZ,ab fD⟩)
   clear uZ fC fD
   go_wp2
   refine bodyPost_ret (results_none rfl _ _ _) rfl ?_
   exact ab HE
end Go.Proofs.YtichhjfjcinjgaaGreatDoor

import Derived.Test.YtichhjfjcinjgaaGreatDoorM17
set_option maxHeartbeats 2000000
set_option maxRecDepth 100000
namespace Go.Proofs.YtichhjfjcinjgaaGreatDoor
open Go.RowKit
attribute [local go_sem ↓] Go.wp_at_zero Go.wp_at_succ
theorem OG {w:World}{b:Nat}{v0 v1 v2 v3:Value}{t:TypeId} (hn:w.heap[b]?=some (.cells #[v0,v1,v2,v3] t (0,0))):w.cell? ⟨b,0,none⟩=some v0∧w.cell? ⟨b,1,none⟩=some v1∧w.cell? ⟨b,2,none⟩=some v2∧w.cell? ⟨b,3,none⟩=some v3 :=
 ⟨cell_of_row _ _ _ _ _ _ hn,cell_of_row _ _ _ _ _ _ hn,cell_of_row _ _ _ _ _ _ hn,cell_of_row _ _ _ _ _ _ hn⟩
def gB:ByteArray:=⟨#[32,61,32]⟩
def gG (n:Nat) (v:ByteArray×Int):List Nat:=aY n [v.1,gB,bJ v.2,bC]
noncomputable def gp (n:Nat) (e:En):List Nat:=fg n 2147483647 e.res e.gone++e.aR.flatMap (gG n)
theorem BK {W w:World}{B bb dd ll:Nat}{L:List Nat}{n:Nat} (h:Pn W B bb dd L n w) (hP:il W) (hF:ir W) {e:En}{vv vr vg:Value} (hv:Rl W vv e.aR.length (rn e.aR)) (hr:Rl W vr e.res.length (lj e.res)) (hg:Rl W vg e.gone.length (cc e.gone))
  (Ir:e.res.length≤4096) (oV:∀r ∈ e.res,(-2147483648≤r.1∧r.1≤2147483647)∧(-2147483648≤r.2∧r.2≤2147483647)) (dO:e.gone.length≤4096) (ep:∀s ∈ e.gone,s.size≤1048576) (y8:∀v ∈ e.aR,-2147483648≤v.2∧v.2≤2147483647) (hl:L.length+(gp n e).length≤1099511627776) :
  Calls Tryz.prog 91 #[.agg (eO bb dd ll),.agg #[.string e.name,vv,vr,vg]] w (vI W B bb dd (L++gp n e) n w):=by
 have aM:=h.bi.lt.2
 have s1:=zJ w (.cells (eO bb dd ll) 89)
 have k1:=aJ w (.cells (eO bb dd ll) 89)
 have k2:=aJ (w.alloc (.cells (eO bb dd ll) 89)) (.cells #[.string e.name,vv,vr,vg] 67)
 rw[s1] at k2
 have sS:=(Below.heap_alloc (w.alloc (.cells (eO bb dd ll) 89)) (.cells #[.string e.name,vv,vr,vg] 67) _ (by rw[s1];omega)).trans k1
 have lk:Below w.heap.size w ((w.alloc (.cells (eO bb dd ll) 89)).alloc (.cells #[.string e.name,vv,vr,vg] 67)):=((zE _ _).alloc (zD _) _).alloc (by omega) _
 have hlen:(gp n e).length=(fg n 2147483647 e.res e.gone).length+(e.aR.flatMap (gG n)).length:=by unfold gp;rw[zK]
 have HR:=al (oH (ll:=ll) (most:=2147483647) (h.below lk) hP hF hr hg Ir oV dO ep (by omega))
 unfold eO at sS k2 lk HR ⊢
 obtain ⟨V,hV⟩:∃V,(w.alloc (.cells #[bZ bb dd,cy ll dd,cq bb] 89)).alloc (.cells #[.string e.name,vv,vr,vg] 67)=V:=⟨_,rfl⟩
 rw[hV] at sS k2 lk HR
 obtain ⟨c0,c1,c2,c3⟩:=OG k2
 have p0:V.cell? ⟨w.heap.size,0,none⟩=some (bZ bb dd):=cell_of_row _ _ _ _ _ _ sS
 have p1:V.cell? ⟨w.heap.size,1,none⟩=some (cy ll dd):=cell_of_row _ _ _ _ _ _ sS
 have p2:V.cell? ⟨w.heap.size,2,none⟩=some (cq bb):=cell_of_row _ _ _ _ _ _ sS
 obtain ⟨av,cv,rfl,AR,cT⟩:=hv
 obtain ⟨ar,cr,rfl,-,-⟩:=hr
 obtain ⟨ag,cg,rfl,-,-⟩:=hg
 have HV:=al cT
 have JY:=al (show Kp bb w V from Kp.below lk)
 have iO:=al sS
 have fI:=al k2
 have pC:=al (show w.heap.size≠bb by omega)
 have XO:=al (show w.heap.size+1≠bb by omega)
 unfold bZ cy cq at hV iO HR ⊢
 unfold bZ at p0
 unfold cy at p1
 unfold cq at p2
 clear k1 sS k2 lk s1 aM h Ir oV dO ep hF hlen
 go_enter Tryz.func91,Tryz.ntmps91
 go_wp2_with fail
 refine (ab HR).mono ?_
 rintro e' w1 ⟨rfl,pY,mf⟩
 have j1:=mf _ _ _ _ (ab pC) (ab iO) (by decide)
 have j2:=mf _ _ _ _ (ab XO) (ab fI) (by decide)
 obtain ⟨d0,d1,d2,d3⟩:=OG j2
 have vK:=al pY
 have yV:=al ((ab JY).trans mf)
 have rb:=al j1
 have Hl:=al hl
 have HvB:=al y8
 have MX:Hid (∀w,Below W.heap.size W w→il w):=fun w h=>hP.up h
 clear c0 c1 c2 c3 p0 p1 p2 pY mf j1 j2 hl y8 hP HR JY iO fI hV
 go_wp2_with fail
 clear d0 d1 d2 d3
 go_loopg [5,15] e.aR.length (fun gk _ v15 wr=>∃(i:Nat),v15=.int .i64 (i:Int)∧gk=e.aR.length-i∧i≤e.aR.length∧Hid (Pn W B bb dd (L++fg n 2147483647 e.res e.gone++(e.aR.take i).flatMap (gG n)) n wr)∧Hid (Kp bb w wr)∧Hid (wr.heap[w.heap.size]?=some (.cells #[.func (.func 80) #[] #[.pointer (some ⟨bb,0,none⟩),.pointer (some ⟨dd,0,none⟩)],.func (.func 84) #[] #[.pointer (some ⟨ll,0,none⟩),.pointer (some ⟨dd,0,none⟩)],.func (.func 85) #[.pointer (some ⟨bb,0,none⟩)] #[]] 89 (0,0))))
 case atStart=>exact ⟨0,rfl,rfl,by omega,by rw[List.take_zero,List.flatMap_nil,List.append_nil];exact vK,yV,rb⟩
 case round =>
  obtain ⟨i,rfl,aW,hi,fH,fI,De⟩:=hrel
  have bz:=al aW
  clear aW vK yV rb
  by_cases aM:i<e.aR.length
  ·obtain ⟨g,o,rfl,hg,hc⟩:=ab HV (by omega)
   have hr:=List.getElem?_eq_getElem aM
   have cJ:=List.getElem_mem aM
   obtain ⟨r,uO⟩:∃r,e.aR[i]=r:=⟨_,rfl⟩
   rw[uO] at hr cJ
   have x0:=((ab fH).bU.cell (p:=⟨g,o+(i*2+0),none⟩) hg).trans (hc _ _ (fL hr (j:=0) (by decide)))
   have x1:=((ab fH).bU.cell (p:=⟨g,o+(i*2+1),none⟩) hg).trans (hc _ _ (fL hr (j:=1) (by decide)))
   rw[Nat.add_zero] at x0
   rw[←Nat.add_assoc] at x1
   have ku:(e.aR.take (i+1)).flatMap (gG n)=(e.aR.take i).flatMap (gG n)++gG n r:=by
    obtain ⟨II,rfl⟩:=zB hr
    rw[List.take_succ_eq_append_getElem II,List.flatMap_append]
    simp
   have fR:(L++fg n 2147483647 e.res e.gone++(e.aR.take i).flatMap (gG n)).length+(gG n r).length≤1099511627776:=by
    have h1:(gp n e).length=(fg n 2147483647 e.res e.gone).length+((e.aR.take (i+1)).flatMap (gG n)).length+((e.aR.drop (i+1)).flatMap (gG n)).length:=by
     have e2:e.aR.flatMap (gG n)=(e.aR.take (i+1)).flatMap (gG n)++(e.aR.drop (i+1)).flatMap (gG n):=by rw[←List.flatMap_append,List.take_append_drop]
     unfold gp
     rw[zK,e2,zK]
     omega
    rw[ku,zK] at h1
    rw[zK,zK]
    have:=ab Hl
    omega
   have fw:=aJ wr (.cells #[.string r.1,.int .i64 r.2] 74)
   have bG:Below wr.heap.size wr (wr.alloc (.cells #[.string r.1,.int .i64 r.2] 74)):=(zE _ _).alloc (zD _) _
   obtain ⟨X,hX⟩:∃X,wr.alloc (.cells #[.string r.1,.int .i64 r.2] 74)=X:=⟨_,rfl⟩
   rw[hX] at fw bG
   have Bx:=(ab fH).below bG
   have jX:=(bG.block _ (zA (ab De)).1).trans (ab De)
   have Z3:(fun w':World=>w'.cell? ⟨w.heap.size,0,none⟩=some (.func (.func 80) #[] #[.pointer (some ⟨bb,0,none⟩),.pointer (some ⟨dd,0,none⟩)])∧w'.cell? ⟨wr.heap.size,0,none⟩=some (.string r.1)∧w'.cell? ⟨wr.heap.size,1,none⟩=some (.int .i64 r.2)) X:=⟨cell_of_row _ _ _ _ _ _ jX,cell_of_row _ _ _ _ _ _ fw,cell_of_row _ _ _ _ _ _ fw⟩
   have hT:(fun w':World=>w'.cell? ⟨w.heap.size,0,none⟩=some (.func (.func 80) #[] #[.pointer (some ⟨bb,0,none⟩),.pointer (some ⟨dd,0,none⟩)])∧w'.cell? ⟨wr.heap.size,0,none⟩=some (.string r.1)∧w'.cell? ⟨wr.heap.size,1,none⟩=some (.int .i64 r.2)) X.drew:=Z3
   have i0:(0:Int)≤(i:Int):=zH _
   have i1:(i:Int)<(e.aR.length:Int):=by omega
   have bu:=al aM
   have tK:=al jX
   have iu:=al fw
   have Bk:=al (show Kp bb w X from (ab fI).trans (Kp.below bG))
   have QC:=al (fun w' (h:il w')=>oT h r.2 (by have:=ab HvB r cJ;omega) (by have:=ab HvB r cJ;omega))
   have oC:=al fR
   have yR:=al ku
   have Be:=al (show wr.heap.size≠bb by have:=(ab fH).bi.lt.2;omega)
   clear hc hr cJ uO ku fR fw jX Z3 aM
   go_upto_region 5 with fail
   refine wp_region_any (by kernel_rfl) (bL (z:=99) (T:=fun w'=>w'.cell? ⟨w.heap.size,0,none⟩=some (.func (.func 80) #[] #[.pointer (some ⟨bb,0,none⟩),.pointer (some ⟨dd,0,none⟩)])∧w'.cell? ⟨wr.heap.size,0,none⟩=some (.string r.1)∧w'.cell? ⟨wr.heap.size,1,none⟩=some (.int .i64 r.2)) _ _ _ _ ?_)
   try (change cd _ _ _ _ _ _ _ _ _ (World.drew _))
   refine aw 0 (.pointer (some ⟨w.heap.size,0,none⟩)) 19 rfl rfl (Or.inl ⟨by rfl,fun w' hw=>by obtain ⟨cP,cH,bN⟩:=hw;go_simp⟩) hT ?_
   simp only[Act.put,zL,zM,zN]
   refine aw 1 (.func (.func 80) #[] #[.pointer (some ⟨bb,0,none⟩),.pointer (some ⟨dd,0,none⟩)]) 20 rfl rfl (Or.inl ⟨by rfl,fun w' hw=>by obtain ⟨cP,cH,bN⟩:=hw;go_simp⟩) hT ?_
   simp only[Act.put,zL,zM,zN]
   refine aw 2 (.pointer (some ⟨wr.heap.size,0,none⟩)) 21 rfl rfl (Or.inl ⟨by rfl,fun w' hw=>by obtain ⟨cP,cH,bN⟩:=hw;go_simp⟩) hT ?_
   simp only[Act.put,zL,zM,zN]
   refine aw 3 (.string r.1) 22 rfl rfl (Or.inl ⟨by rfl,fun w' hw=>by obtain ⟨cP,cH,bN⟩:=hw;go_simp⟩) hT ?_
   simp only[Act.put,zL,zM,zN]
   refine aw 4 (.pointer (some ⟨wr.heap.size,1,none⟩)) 23 rfl rfl (Or.inl ⟨by rfl,fun w' hw=>by obtain ⟨cP,cH,bN⟩:=hw;go_simp⟩) hT ?_
   simp only[Act.put,zL,zM,zN]
   refine aw 5 (.int .i64 r.2) 24 rfl rfl (Or.inl ⟨by rfl,fun w' hw=>by obtain ⟨cP,cH,bN⟩:=hw;go_simp⟩) hT ?_
   simp only[Act.put,zL,zM,zN]
   refine aF 6 (by kernel_rfl) rfl (fun K hK=>?_)
   refine aO 25 rfl rfl 134 (fun vs=>by kernel_rfl) #[.tmp 24] #[3] rfl #[.int .i64 r.2] (by first|rfl|simp[Act.eval]) (ab QC X.drew (ab MX _ (below_drewN Bx.bU 1))) ?_
   rintro e' w3 ⟨rfl,cz⟩
   have cz:Below X.heap.size X w3:=⟨cz.os,cz.tape,cz.output,cz.size,cz.block⟩
   have qR:=Bx.below cz
   have sU:=(ab Bk).trans (Kp.below cz)
   have zd:(fun w':World=>w'.cell? ⟨w.heap.size,0,none⟩=some (.func (.func 80) #[] #[.pointer (some ⟨bb,0,none⟩),.pointer (some ⟨dd,0,none⟩)])∧w'.cell? ⟨wr.heap.size,0,none⟩=some (.string r.1)∧w'.cell? ⟨wr.heap.size,1,none⟩=some (.int .i64 r.2)) w3:=⟨cell_of_row _ _ _ _ _ _ ((cz.block _ (zA (ab tK)).1).trans (ab tK)),cell_of_row _ _ _ _ _ _ ((cz.block _ (zA (ab iu)).1).trans (ab iu)),cell_of_row _ _ _ _ _ _ ((cz.block _ (zA (ab iu)).1).trans (ab iu))⟩
   refine ⟨_,rfl,hK _ _ ⟨fun _=>zd,?_⟩⟩
   clear hK K hT
   simp only[Act.put,zL,zM,zN]
   have ff:Below w3.heap.size w3 (w3.alloc (.cells #[.string r.1,.string ⟨#[32,61,32]⟩,.string (bJ r.2),.string ⟨#[59]⟩] 9)):=(zE _ _).alloc (zD _) _
   have BB:(fun w':World=>w'.cell? ⟨w.heap.size,0,none⟩=some (.func (.func 80) #[] #[.pointer (some ⟨bb,0,none⟩),.pointer (some ⟨dd,0,none⟩)])∧w'.cell? ⟨wr.heap.size,0,none⟩=some (.string r.1)∧w'.cell? ⟨wr.heap.size,1,none⟩=some (.int .i64 r.2)) (w3.alloc (.cells #[.string r.1,.string ⟨#[32,61,32]⟩,.string (bJ r.2),.string ⟨#[59]⟩] 9)):=⟨cell_of_row _ _ _ _ _ _ (((Kp.below cz).trans (Kp.below ff)) _ _ _ _ (ab pC) (ab tK) (by decide)),cell_of_row _ _ _ _ _ _ (((Kp.below cz).trans (Kp.below ff)) _ _ _ _ (ab Be) (ab iu) (by decide)),cell_of_row _ _ _ _ _ _ (((Kp.below cz).trans (Kp.below ff)) _ _ _ _ (ab Be) (ab iu) (by decide))⟩
   refine aF 7 (by kernel_rfl) rfl (fun K hK=>?_)
   go_simp
   refine hK _ _ ⟨fun _=>BB,?_⟩
   clear hK K
   refine aF 8 (by kernel_rfl) rfl (fun K hK=>?_)
   refine jS 27 20 rfl 80 #[] #[.pointer (some ⟨bb,0,none⟩),.pointer (some ⟨dd,0,none⟩)] (fun vs=>by kernel_rfl) #[.tmp 26] #[22] rfl (by first|rfl|simp[Act.eval]) #[.slice (some ⟨w3.heap.size,0,none⟩) 4 4,.pointer (some ⟨bb,0,none⟩),.pointer (some ⟨dd,0,none⟩)] (by first|rfl|simp[Act.eval]) (iG (qR.below ff) (my (ps:=[r.1,⟨#[32,61,32]⟩,bJ r.2,⟨#[59]⟩]) (c:=4) rfl qR.bi.lt.2) (ab oC) (by simp)) (by rfl) ?_
   rintro e' w5 ⟨rfl,nH,jN⟩
   have jv:Kp bb X w5:=((Kp.below cz).trans (Kp.below ff)).trans jN
   have ma:=al (show Pn W B bb dd (L++fg n 2147483647 e.res e.gone++(e.aR.take (i+1)).flatMap (gG n)) n w5 by rw[ab yR,←List.append_assoc];exact nH)
   have sH:=al ((ab Bk).trans jv)
   have F3:=al (jv _ _ _ _ (ab pC) (ab tK) (by decide))
   have uV:(fun w':World=>w'.cell? ⟨w.heap.size,0,none⟩=some (.func (.func 80) #[] #[.pointer (some ⟨bb,0,none⟩),.pointer (some ⟨dd,0,none⟩)])∧w'.cell? ⟨wr.heap.size,0,none⟩=some (.string r.1)∧w'.cell? ⟨wr.heap.size,1,none⟩=some (.int .i64 r.2)) w5:=⟨cell_of_row _ _ _ _ _ _ (ab F3),cell_of_row _ _ _ _ _ _ (jv _ _ _ _ (ab Be) (ab iu) (by decide)),cell_of_row _ _ _ _ _ _ (jv _ _ _ _ (ab Be) (ab iu) (by decide))⟩
   refine ⟨_,rfl,hK _ _ ⟨fun _=>uV,?_⟩⟩
   clear hK K zd BB uV nH jN jv cz ff qR sU Bx bG Bk tK iu QC oC yR fH fI De
   simp only[Act.put,zL,zM,zN]
   refine a8 (by kernel_rfl) ?_
   go_wp2
   go_roundg (e.aR.length-(i+1))
   case measure=>have:=ab bz;have:=ab bu;omega
   case rel=>exact ⟨i+1,by go_num,rfl,ab bu,ma,sH,F3⟩
  ·obtain rfl:i=e.aR.length:=by omega
   have vH:=ab fH
   rw[List.take_length,List.append_assoc] at vH
   have HE:=al (show vI W B bb dd (L++gp n e) n w (.returned (.tuple #[])) wr from ⟨rfl,vH,ab fI⟩)
   clear vH fH fI
   go_wp2
   refine bodyPost_ret (results_none rfl _ _ _) rfl ?_
   exact ab HE
def eZ:ByteArray:=⟨#[32]⟩
def bT (n:Nat) (d:Fd):List Nat:=aY n [qK d,eZ,d.name,gB,bJ d.num,bC]
def Rg (w:World) (u:Value) (g:List Fd) (bb:Nat):Prop:=∃h c cur,u=.slice (some ⟨h,0,none⟩) g.length c∧w.heap[h]?=some (.cells cur 42 (0,0))∧cur.toList.take (g.length*6)=fB g∧h≠bb
theorem Rg.kp {w w':World}{u:Value}{g:List Fd}{bb:Nat} (h:Rg w u g bb) (hk:Kp bb w w'):Rg w' u g bb:=by
 obtain ⟨a,c,cur,h1,h2,h3,h4⟩:=h
 exact ⟨a,c,cur,h1,hk _ _ _ _ h4 h2 (by decide),h3,h4⟩
theorem wW {W w:World}{B bb dd ll qb qp:Nat}{L:List Nat}{n:Nat} (h:Pn W B bb dd L n w) (hP:il W) {u:Value}{g:List Fd} (hq:w.heap[qb]?=some (.cells #[u] 43 (0,0))) (hp:w.heap[qp]?=some (.cells (eO bb dd ll) 89 (0,0))) (PZ:qp≠bb) (hg:Rg w u g bb)
  (hgl:g.length≤4096) (ep:∀d ∈ g,(0≤d.num∧d.num≤2147483647)∧d.key.size≤255∧d.ty.size≤255) (hl:L.length+(g.flatMap (bT n)).length≤1099511627776) :
  Calls Tryz.prog 132 #[.pointer (some ⟨qb,0,none⟩),.pointer (some ⟨qp,0,none⟩)] w (vI W B bb dd (L++g.flatMap (bT n)) n w):=by
 have q0:w.cell? ⟨qb,0,none⟩=some u:=cell_of_row _ _ _ _ _ _ hq
 obtain ⟨gh,gc,cur,rfl,CI,ZR,P7⟩:=hg
 have JT:=al h
 have Ty:=al hp
 have HG0:=al CI
 have Hgt:=al ZR
 have Hgn:=al P7
 have pC:=al PZ
 have Hl:=al hl
 have HdB:=al ep
 have MX:Hid (∀w,Below W.heap.size W w→il w):=fun w h=>hP.up h
 unfold eO bZ cy cq at Ty
 clear h hp CI ZR P7 PZ hl ep hP hq
 go_enter Tryz.func132,Tryz.ntmps132
 go_wp2_with fail
 clear q0
 go_loopg [3,6] g.length (fun gk _ v6 wr=>∃(i:Nat),v6=.int .i64 (i:Int)∧gk=g.length-i∧i≤g.length∧Hid (Pn W B bb dd (L++(g.take i).flatMap (bT n)) n wr)∧Hid (Kp bb w wr))
 case atStart=>exact ⟨0,rfl,rfl,by omega,by rw[List.take_zero,List.flatMap_nil,List.append_nil];exact JT,Kp.refl _ _⟩
 case round =>
  obtain ⟨i,rfl,aW,hi,fH,fI⟩:=hrel
  have bz:=al aW
  clear aW JT
  by_cases aM:i<g.length
  ·have hr:=List.getElem?_eq_getElem aM
   have cJ:=List.getElem_mem aM
   obtain ⟨r,uO⟩:∃r,g[i]=r:=⟨_,rfl⟩
   rw[uO] at hr cJ
   have hG2:=ab fI _ _ _ _ (ab Hgn) (ab HG0) (by decide)
   have W5:=ab fI _ _ _ _ (ab pC) (ab Ty) (by decide)
   have qT:∀j,j<6→wr.cell? ⟨gh,i*6+j,none⟩=r.cs[j]?:=by
    intro j hj
    rw[cell_of_row _ _ _ _ _ _ hG2,←Array.getElem?_toList]
    have e1:=cC hr hj
    rw[←ab Hgt,List.getElem?_take] at e1
    rw[if_pos (by omega)] at e1
    exact e1
   have ku:(g.take (i+1)).flatMap (bT n)=(g.take i).flatMap (bT n)++bT n r:=by
    obtain ⟨II,rfl⟩:=zB hr
    rw[List.take_succ_eq_append_getElem II,List.flatMap_append]
    simp
   have fR:(L++(g.take i).flatMap (bT n)).length+(bT n r).length≤1099511627776:=by
    have e2:g.flatMap (bT n)=(g.take (i+1)).flatMap (bT n)++(g.drop (i+1)).flatMap (bT n):=by rw[←List.flatMap_append,List.take_append_drop]
    have h1:=congrArg List.length e2
    rw[ku,zK,zK] at h1
    rw[zK]
    have:=ab Hl
    omega
   have CM:=ab HdB r cJ
   obtain ⟨aQ,key,ty,nm,num,aE⟩:=r
   unfold Fd.cs at qT
   simp only at CM
   have x0:=qT 0 (by decide)
   have x1:=qT 1 (by decide)
   have x2:=qT 2 (by decide)
   have x3:=qT 3 (by decide)
   have x4:=qT 4 (by decide)
   have x5:=qT 5 (by decide)
   rw[Nat.add_zero] at x0
   simp only[List.getElem?_cons_zero,List.getElem?_cons_succ] at x0 x1 x2 x3 x4 x5
   obtain ⟨-,fw,bG⟩:=j9 wr aQ num aE key ty nm
   obtain ⟨X,hX⟩:∃X,wr.alloc (.cells #[.int .i64 aQ,.string key,.string ty,.string nm,.int .i64 num,.int .i64 aE] 42)=X:=⟨_,rfl⟩
   rw[hX] at fw bG
   have Bx:=(ab fH).below bG
   have jX:=(bG.block _ (zA W5).1).trans W5
   have hT:(fun w':World=>w'.cell? ⟨qp,0,none⟩=some (.func (.func 80) #[] #[.pointer (some ⟨bb,0,none⟩),.pointer (some ⟨dd,0,none⟩)])∧w'.cell? ⟨wr.heap.size,0,none⟩=some (.int .i64 aQ)∧w'.cell? ⟨wr.heap.size,1,none⟩=some (.string key)∧w'.cell? ⟨wr.heap.size,2,none⟩=some (.string ty)∧w'.cell? ⟨wr.heap.size,3,none⟩=some (.string nm)∧w'.cell? ⟨wr.heap.size,4,none⟩=some (.int .i64 num)∧w'.cell? ⟨wr.heap.size,5,none⟩=some (.int .i64 aE)) X.drew:=⟨cell_of_row _ _ _ _ _ _ (jX),cell_of_row _ _ _ _ _ _ (fw),cell_of_row _ _ _ _ _ _ (fw),cell_of_row _ _ _ _ _ _ (fw),cell_of_row _ _ _ _ _ _ (fw),cell_of_row _ _ _ _ _ _ (fw),cell_of_row _ _ _ _ _ _ (fw)⟩
   have i0:(0:Int)≤(i:Int):=zH _
   have i1:(i:Int)<(g.length:Int):=by omega
   have bu:=al aM
   have tK:=al jX
   have iu:=al fw
   have Bk:=al (show Kp bb w X from (ab fI).trans (Kp.below bG))
   have Uq:=al (fun w'=>xJ (W:=w') ⟨aQ,key,ty,nm,num,aE⟩ CM.2.1 CM.2.2)
   have QC:=al (fun w' (h:il w')=>oT h num (by omega) (by omega))
   have oC:=al fR
   have yR:=al ku
   have Be:=al (show wr.heap.size≠bb by have:=(ab fH).bi.lt.2;omega)
   obtain ⟨tt,Mu⟩:∃t,qK ⟨aQ,key,ty,nm,num,aE⟩=t:=⟨_,rfl⟩
   obtain ⟨ti,We⟩:∃t,bJ num=t:=⟨_,rfl⟩
   have X7:Hid (bT n ⟨aQ,key,ty,nm,num,aE⟩=aY n [tt,⟨#[32]⟩,nm,⟨#[32,61,32]⟩,ti,⟨#[59]⟩]):=by unfold bT eZ gB bC;rw[Mu];simp only;rw[We];rfl
   rw[Mu] at Uq
   rw[We] at QC
   unfold Fd.cs at Uq
   clear hr cJ uO ku fR fw jX aM qT hG2 W5 CM Mu We
   go_upto_region 3 with fail
   refine wp_region_any (by kernel_rfl) (bL (z:=99) (T:=fun w'=>w'.cell? ⟨qp,0,none⟩=some (.func (.func 80) #[] #[.pointer (some ⟨bb,0,none⟩),.pointer (some ⟨dd,0,none⟩)])∧w'.cell? ⟨wr.heap.size,0,none⟩=some (.int .i64 aQ)∧w'.cell? ⟨wr.heap.size,1,none⟩=some (.string key)∧w'.cell? ⟨wr.heap.size,2,none⟩=some (.string ty)∧w'.cell? ⟨wr.heap.size,3,none⟩=some (.string nm)∧w'.cell? ⟨wr.heap.size,4,none⟩=some (.int .i64 num)∧w'.cell? ⟨wr.heap.size,5,none⟩=some (.int .i64 aE)) _ _ _ _ ?_)
   try (change cd _ _ _ _ _ _ _ _ _ (World.drew _))
   refine aw 0 (.pointer (some ⟨qp,0,none⟩)) 10 rfl rfl (Or.inl ⟨by rfl,fun w' hw=>by obtain ⟨cP,cH,bN,db,eI,eP,eH⟩:=hw;go_simp⟩) hT ?_
   simp only[Act.put,zL,zM,zN]
   refine aw 1 (.func (.func 80) #[] #[.pointer (some ⟨bb,0,none⟩),.pointer (some ⟨dd,0,none⟩)]) 11 rfl rfl (Or.inl ⟨by rfl,fun w' hw=>by obtain ⟨cP,cH,bN,db,eI,eP,eH⟩:=hw;go_simp⟩) hT ?_
   simp only[Act.put,zL,zM,zN]
   refine aw 2 (.agg #[.int .i64 aQ,.string key,.string ty,.string nm,.int .i64 num,.int .i64 aE]) 12 rfl rfl (Or.inl ⟨by rfl,fun w' hw=>by obtain ⟨cP,cH,bN,db,eI,eP,eH⟩:=hw;go_simp⟩) hT ?_
   simp only[Act.put,zL,zM,zN]
   refine aw 4 (.pointer (some ⟨wr.heap.size,3,none⟩)) 14 rfl rfl (Or.inl ⟨by rfl,fun w' hw=>by obtain ⟨cP,cH,bN,db,eI,eP,eH⟩:=hw;go_simp⟩) hT ?_
   simp only[Act.put,zL,zM,zN]
   refine aw 5 (.string nm) 15 rfl rfl (Or.inl ⟨by rfl,fun w' hw=>by obtain ⟨cP,cH,bN,db,eI,eP,eH⟩:=hw;go_simp⟩) hT ?_
   simp only[Act.put,zL,zM,zN]
   refine aw 6 (.pointer (some ⟨wr.heap.size,4,none⟩)) 16 rfl rfl (Or.inl ⟨by rfl,fun w' hw=>by obtain ⟨cP,cH,bN,db,eI,eP,eH⟩:=hw;go_simp⟩) hT ?_
   simp only[Act.put,zL,zM,zN]
   refine aw 7 (.int .i64 num) 17 rfl rfl (Or.inl ⟨by rfl,fun w' hw=>by obtain ⟨cP,cH,bN,db,eI,eP,eH⟩:=hw;go_simp⟩) hT ?_
   simp only[Act.put,zL,zM,zN]
   refine aF 3 (by kernel_rfl) rfl (fun K hK=>?_)
   refine aO 13 rfl rfl 133 (fun vs=>by kernel_rfl) #[.tmp 12] #[42] rfl #[.agg #[.int .i64 aQ,.string key,.string ty,.string nm,.int .i64 num,.int .i64 aE]] (by first|rfl|simp[Act.eval]) (ab Uq X.drew) ?_
   rintro e' w3 ⟨rfl,cz⟩
   have cz:Below X.heap.size X w3:=⟨cz.os,cz.tape,cz.output,cz.size,cz.block⟩
   have qR:=Bx.below cz
   have zd:(fun w':World=>w'.cell? ⟨qp,0,none⟩=some (.func (.func 80) #[] #[.pointer (some ⟨bb,0,none⟩),.pointer (some ⟨dd,0,none⟩)])∧w'.cell? ⟨wr.heap.size,0,none⟩=some (.int .i64 aQ)∧w'.cell? ⟨wr.heap.size,1,none⟩=some (.string key)∧w'.cell? ⟨wr.heap.size,2,none⟩=some (.string ty)∧w'.cell? ⟨wr.heap.size,3,none⟩=some (.string nm)∧w'.cell? ⟨wr.heap.size,4,none⟩=some (.int .i64 num)∧w'.cell? ⟨wr.heap.size,5,none⟩=some (.int .i64 aE)) w3:=⟨cell_of_row _ _ _ _ _ _ ((cz.block _ (zA (ab tK)).1).trans (ab tK)),cell_of_row _ _ _ _ _ _ ((cz.block _ (zA (ab iu)).1).trans (ab iu)),cell_of_row _ _ _ _ _ _ ((cz.block _ (zA (ab iu)).1).trans (ab iu)),cell_of_row _ _ _ _ _ _ ((cz.block _ (zA (ab iu)).1).trans (ab iu)),cell_of_row _ _ _ _ _ _ ((cz.block _ (zA (ab iu)).1).trans (ab iu)),cell_of_row _ _ _ _ _ _ ((cz.block _ (zA (ab iu)).1).trans (ab iu)),cell_of_row _ _ _ _ _ _ ((cz.block _ (zA (ab iu)).1).trans (ab iu))⟩
   refine ⟨_,rfl,hK _ _ ⟨fun _=>zd,?_⟩⟩
   clear hK K hT
   simp only[Act.put,zL,zM,zN]
   refine aF 8 (by kernel_rfl) rfl (fun K hK=>?_)
   refine aO 18 rfl rfl 134 (fun vs=>by kernel_rfl) #[.tmp 17] #[3] rfl #[.int .i64 num] (by first|rfl|simp[Act.eval]) (ab QC w3 (ab MX _ qR.bU)) ?_
   rintro e' w6 ⟨rfl,pa⟩
   have pa:Below X.heap.size X w6:=cz.trans (pa.mono cz.size)
   have NV:=Bx.below pa
   have J9:(fun w':World=>w'.cell? ⟨qp,0,none⟩=some (.func (.func 80) #[] #[.pointer (some ⟨bb,0,none⟩),.pointer (some ⟨dd,0,none⟩)])∧w'.cell? ⟨wr.heap.size,0,none⟩=some (.int .i64 aQ)∧w'.cell? ⟨wr.heap.size,1,none⟩=some (.string key)∧w'.cell? ⟨wr.heap.size,2,none⟩=some (.string ty)∧w'.cell? ⟨wr.heap.size,3,none⟩=some (.string nm)∧w'.cell? ⟨wr.heap.size,4,none⟩=some (.int .i64 num)∧w'.cell? ⟨wr.heap.size,5,none⟩=some (.int .i64 aE)) w6:=⟨cell_of_row _ _ _ _ _ _ ((pa.block _ (zA (ab tK)).1).trans (ab tK)),cell_of_row _ _ _ _ _ _ ((pa.block _ (zA (ab iu)).1).trans (ab iu)),cell_of_row _ _ _ _ _ _ ((pa.block _ (zA (ab iu)).1).trans (ab iu)),cell_of_row _ _ _ _ _ _ ((pa.block _ (zA (ab iu)).1).trans (ab iu)),cell_of_row _ _ _ _ _ _ ((pa.block _ (zA (ab iu)).1).trans (ab iu)),cell_of_row _ _ _ _ _ _ ((pa.block _ (zA (ab iu)).1).trans (ab iu)),cell_of_row _ _ _ _ _ _ ((pa.block _ (zA (ab iu)).1).trans (ab iu))⟩
   refine ⟨_,rfl,hK _ _ ⟨fun _=>J9,?_⟩⟩
   clear hK K zd qR cz
   simp only[Act.put,zL,zM,zN]
   have ff:Below w6.heap.size w6 (w6.alloc (.cells #[.string tt,.string ⟨#[32]⟩,.string nm,.string ⟨#[32,61,32]⟩,.string ti,.string ⟨#[59]⟩] 9)):=(zE _ _).alloc (zD _) _
   have nK:Kp bb X (w6.alloc (.cells #[.string tt,.string ⟨#[32]⟩,.string nm,.string ⟨#[32,61,32]⟩,.string ti,.string ⟨#[59]⟩] 9)):=(Kp.below pa).trans (Kp.below ff)
   have BB:(fun w':World=>w'.cell? ⟨qp,0,none⟩=some (.func (.func 80) #[] #[.pointer (some ⟨bb,0,none⟩),.pointer (some ⟨dd,0,none⟩)])∧w'.cell? ⟨wr.heap.size,0,none⟩=some (.int .i64 aQ)∧w'.cell? ⟨wr.heap.size,1,none⟩=some (.string key)∧w'.cell? ⟨wr.heap.size,2,none⟩=some (.string ty)∧w'.cell? ⟨wr.heap.size,3,none⟩=some (.string nm)∧w'.cell? ⟨wr.heap.size,4,none⟩=some (.int .i64 num)∧w'.cell? ⟨wr.heap.size,5,none⟩=some (.int .i64 aE)) (w6.alloc (.cells #[.string tt,.string ⟨#[32]⟩,.string nm,.string ⟨#[32,61,32]⟩,.string ti,.string ⟨#[59]⟩] 9)):=⟨cell_of_row _ _ _ _ _ _ (nK _ _ _ _ (ab pC) (ab tK) (by decide)),cell_of_row _ _ _ _ _ _ (nK _ _ _ _ (ab Be) (ab iu) (by decide)),cell_of_row _ _ _ _ _ _ (nK _ _ _ _ (ab Be) (ab iu) (by decide)),cell_of_row _ _ _ _ _ _ (nK _ _ _ _ (ab Be) (ab iu) (by decide)),cell_of_row _ _ _ _ _ _ (nK _ _ _ _ (ab Be) (ab iu) (by decide)),cell_of_row _ _ _ _ _ _ (nK _ _ _ _ (ab Be) (ab iu) (by decide)),cell_of_row _ _ _ _ _ _ (nK _ _ _ _ (ab Be) (ab iu) (by decide))⟩
   refine aF 9 (by kernel_rfl) rfl (fun K hK=>?_)
   go_simp
   refine hK _ _ ⟨fun _=>BB,?_⟩
   clear hK K
   refine aF 10 (by kernel_rfl) rfl (fun K hK=>?_)
   refine jS 20 11 rfl 80 #[] #[.pointer (some ⟨bb,0,none⟩),.pointer (some ⟨dd,0,none⟩)] (fun vs=>by kernel_rfl) #[.tmp 19] #[22] rfl (by first|rfl|simp[Act.eval]) #[.slice (some ⟨w6.heap.size,0,none⟩) 6 6,.pointer (some ⟨bb,0,none⟩),.pointer (some ⟨dd,0,none⟩)] (by first|rfl|simp[Act.eval]) (iG (NV.below ff) (my (ps:=[tt,⟨#[32]⟩,nm,⟨#[32,61,32]⟩,ti,⟨#[59]⟩]) (c:=6) rfl NV.bi.lt.2) (by rw[←ab X7];exact ab oC) (by simp)) (by rfl) ?_
   rintro e' w5 ⟨rfl,nH,jN⟩
   have jv:Kp bb X w5:=nK.trans jN
   have ma:=al (show Pn W B bb dd (L++(g.take (i+1)).flatMap (bT n)) n w5 by rw[ab yR,←List.append_assoc,ab X7];exact nH)
   have sH:=al ((ab Bk).trans jv)
   have uV:(fun w':World=>w'.cell? ⟨qp,0,none⟩=some (.func (.func 80) #[] #[.pointer (some ⟨bb,0,none⟩),.pointer (some ⟨dd,0,none⟩)])∧w'.cell? ⟨wr.heap.size,0,none⟩=some (.int .i64 aQ)∧w'.cell? ⟨wr.heap.size,1,none⟩=some (.string key)∧w'.cell? ⟨wr.heap.size,2,none⟩=some (.string ty)∧w'.cell? ⟨wr.heap.size,3,none⟩=some (.string nm)∧w'.cell? ⟨wr.heap.size,4,none⟩=some (.int .i64 num)∧w'.cell? ⟨wr.heap.size,5,none⟩=some (.int .i64 aE)) w5:=⟨cell_of_row _ _ _ _ _ _ (jv _ _ _ _ (ab pC) (ab tK) (by decide)),cell_of_row _ _ _ _ _ _ (jv _ _ _ _ (ab Be) (ab iu) (by decide)),cell_of_row _ _ _ _ _ _ (jv _ _ _ _ (ab Be) (ab iu) (by decide)),cell_of_row _ _ _ _ _ _ (jv _ _ _ _ (ab Be) (ab iu) (by decide)),cell_of_row _ _ _ _ _ _ (jv _ _ _ _ (ab Be) (ab iu) (by decide)),cell_of_row _ _ _ _ _ _ (jv _ _ _ _ (ab Be) (ab iu) (by decide)),cell_of_row _ _ _ _ _ _ (jv _ _ _ _ (ab Be) (ab iu) (by decide))⟩
   refine ⟨_,rfl,hK _ _ ⟨fun _=>uV,?_⟩⟩
   clear hK K J9 BB uV nH jN jv pa ff NV nK Bx bG Bk tK iu QC Uq oC yR X7 fH fI
   simp only[Act.put,zL,zM,zN]
   refine a8 (by kernel_rfl) ?_
   go_wp2
   go_roundg (g.length-(i+1))
   case measure=>have:=ab bz;have:=ab bu;omega
   case rel=>exact ⟨i+1,by go_num,rfl,ab bu,ma,sH⟩
  ·obtain rfl:i=g.length:=by omega
   have vH:=ab fH
   rw[List.take_length] at vH
   have HE:=al (show vI W B bb dd (L++g.flatMap (bT n)) n w (.returned (.tuple #[])) wr from ⟨rfl,vH,ab fI⟩)
   clear vH fH fI
   go_wp2
   refine bodyPost_ret (results_none rfl _ _ _) rfl ?_
   exact ab HE
end Go.Proofs.YtichhjfjcinjgaaGreatDoor

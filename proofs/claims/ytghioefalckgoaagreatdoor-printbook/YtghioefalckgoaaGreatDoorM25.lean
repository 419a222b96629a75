import Derived.Test.YtghioefalckgoaaGreatDoorM24
set_option maxHeartbeats 2000000
set_option maxRecDepth 100000
namespace Go.Proofs.YtghioefalckgoaaGreatDoor
open Go.RowKit Go.Shelf
attribute [local go_sem ↓] Go.wp_at_zero Go.wp_at_succ
theorem RD:Builder.Extra Tryz.prog Tryz.nc:={
 sizeBuilder:=by kernel_rfl
 liesBuilder:=by kernel_rfl
 t5:=Tryz.underlying5
 a5:=Tryz.isAgg5
 z5:=Tryz.sizeOf5
 v5:=Tryz.zeroValue5
 infoByte:=by kernel_rfl
 cellsByte:=by kernel_rfl
 sizeByte:=by kernel_rfl
 neB5:=by decide }
def ni (ts:List ByteArray):ByteArray:=⟨(Lib.join (ts.map (·.data.toList)) [44,32]).toArray⟩
theorem Jm {w:World}{B:Nat}{u:Value}{ts:List ByteArray} (h:w.ownsRow B 9 1 u ts.length (bj ts)) (h0:0<ts.length) (htl:ts.length≤4096) (hl:(ni ts).size≤140737488355328):Calls Tryz.prog 223 #[u,.string ⟨#[44,32]⟩] w fun e w'=>e=.returned (.string (ni ts))∧Below w.heap.size w w':=by
 obtain ⟨h1,⟨rfl,h2⟩|⟨g,c,cur,rfl,hB,hg,h3,h4,h5,h6⟩⟩:=h
 ·omega
 ·refine Any.strings_Join Tryz.Fg RD g 0 c ts ⟨#[44,32]⟩ w (fun j x hx=>?_) (zA hg).1 (by omega) h3 hl
  rw[Nat.zero_add,cell_of_row _ _ _ _ _ _ hg,←Array.getElem?_toList]
  have hj:=gJ hx
  rw[←h6,List.getElem?_take] at hj
  split at hj
  ·exact hj
  ·cases hj
theorem UL (n:Nat) (a b c:ByteArray):(bK n [a,b,c]).length=2*n+(a.size+(b.size+c.size))+1:=by
 unfold bK
 rw[zK,zK,List.length_replicate,List.flatMap_cons,List.flatMap_cons,List.flatMap_cons,List.flatMap_nil,List.append_nil,zK,zK,bg,bg,bg]
 rfl
def Az:ByteArray:=⟨#[114,101,115,101,114,118,101,100,32]⟩
def fM:ByteArray:=⟨#[59]⟩
def qX (n:Nat) (ts:List ByteArray):List Nat:=if 0<ts.length then bK n [Az,ni ts,fM] else []
theorem AU {W w:World}{B bb dd pp:Nat}{L:List Nat}{n C:Nat}{x y u:Value}{ts:List ByteArray} (h:Pn W B bb dd L n w) (hp:w.heap[pp]?=some (.cells #[bF bb dd,x,y] 101 (0,0))) (Tm:pp≠bb) (hu:w.ownsRow C 9 1 u ts.length (bj ts)) (htl:ts.length≤4096) (hl:L.length+(qX n ts).length≤1099511627776) :
  Calls Tryz.prog 222 #[u,.pointer (some ⟨pp,0,none⟩)] w (wu W B bb dd (L++qX n ts) n w):=by
 obtain ⟨au,lu,cu,rfl,O8⟩:∃a l c,u=.slice a l c∧l=ts.length:=by
  obtain ⟨h1,⟨rfl,h2⟩|⟨g,c,cur,rfl,hB,hg,h3,h4,h5,h6⟩⟩:=hu
  ·exact ⟨none,0,0,rfl,h2.symm⟩
  ·exact ⟨_,_,_,rfl,rfl⟩
 subst O8
 by_cases h0:0<ts.length
 ·have e0:decide ((0:Int)<(ts.length:Int))=true:=decide_eq_true (by omega)
  have hr:qX n ts=bK n [Az,ni ts,fM]:=by unfold qX;rw[if_pos h0]
  rw[hr] at hl ⊢
  have XU:(ni ts).size≤1099511627776:=by
   have e:=UL n Az (ni ts) fM
   omega
  have HJ:=ak (fun w' hb=>Jm (cM hu hb) h0 htl (w:=w') (by omega))
  have HP:=ak h
  have c0:w.cell? ⟨pp,0,none⟩=some (bF bb dd):=cell_of_row _ _ _ _ _ _ hp
  unfold bF at c0 hp
  have HPB:=ak hp
  have Hl:=ak hl
  have pt:=ak Tm
  unfold Az fM at Hl ⊢
  obtain ⟨jt,hjt⟩:∃t,ni ts=t:=⟨_,rfl⟩
  rw[hjt] at HJ Hl ⊢
  clear h hp hu hl hr XU Tm hjt
  go_enter Tryz.func222,Tryz.ntmps222
  go_upto_region 1 with fail
  have hT:(fun w:World=>w.cell? ⟨pp,0,none⟩=some (.func (.func 99) #[] #[.pointer (some ⟨bb,0,none⟩),.pointer (some ⟨dd,0,none⟩)])) w.drew:=c0
  refine wp_region_any (by kernel_rfl) (aV (z:=99) (T:=fun w=>w.cell? ⟨pp,0,none⟩=some (.func (.func 99) #[] #[.pointer (some ⟨bb,0,none⟩),.pointer (some ⟨dd,0,none⟩)])) _ _ _ _ ?_)
  try (change ba _ _ _ _ _ _ _ _ _ (World.drew _))
  refine aw 0 (.pointer (some ⟨pp,0,none⟩)) 6 rfl rfl (Or.inl ⟨by rfl,fun w hw=>by go_simp⟩) hT ?_
  simp only[Act.put,zL,zM,zN]
  refine aw 1 (.func (.func 99) #[] #[.pointer (some ⟨bb,0,none⟩),.pointer (some ⟨dd,0,none⟩)]) 7 rfl rfl (Or.inl ⟨by rfl,fun w hw=>by go_simp⟩) hT ?_
  simp only[Act.put,zL,zM,zN]
  refine aw 2 (.slice au ts.length cu) 8 rfl rfl (Or.inl ⟨by rfl,fun w hw=>by go_simp⟩) hT ?_
  simp only[Act.put,zL,zM,zN]
  refine aB 3 (by kernel_rfl) rfl (fun K hK=>?_)
  refine aM 9 rfl rfl 223 (fun vs=>by kernel_rfl) #[.tmp 8,.const (.string ⟨#[44,32]⟩)] #[22,9] rfl #[.slice au ts.length cu,.string ⟨#[44,32]⟩] (by first|rfl|simp[Act.eval]) (ab HJ w.drew (below_drewN (zE _ _) 1)) ?_
  rintro e w1 ⟨rfl,aY⟩
  have aY:Below w.heap.size w w1:=⟨aY.os,aY.tape,aY.output,aY.size,aY.block⟩
  have qI:=(ab HP).below aY
  have bL:w1.cell? ⟨pp,0,none⟩=some (.func (.func 99) #[] #[.pointer (some ⟨bb,0,none⟩),.pointer (some ⟨dd,0,none⟩)]):=cell_of_row _ _ _ _ _ _ (Kp.below aY _ _ _ _ (ab pt) (ab HPB) (by decide))
  refine ⟨_,rfl,hK _ _ ⟨fun _=>bL,?_⟩⟩
  clear hK K hT
  simp only[Act.put,zL,zM,zN]
  have b9:Below w1.heap.size w1 (w1.alloc (.cells #[.string ⟨#[114,101,115,101,114,118,101,100,32]⟩,.string jt,.string ⟨#[59]⟩] 9)):=(zE _ _).alloc (zD _) _
  have D':(w1.alloc (.cells #[.string ⟨#[114,101,115,101,114,118,101,100,32]⟩,.string jt,.string ⟨#[59]⟩] 9)).cell? ⟨pp,0,none⟩=some (.func (.func 99) #[] #[.pointer (some ⟨bb,0,none⟩),.pointer (some ⟨dd,0,none⟩)]):=cell_of_row _ _ _ _ _ _ ((Kp.below aY).trans (Kp.below b9) _ _ _ _ (ab pt) (ab HPB) (by decide))
  refine aB 4 (by kernel_rfl) rfl (fun K hK=>?_)
  go_simp
  refine hK _ _ ⟨fun _=>D',?_⟩
  clear hK K
  refine aB 5 (by kernel_rfl) rfl (fun K hK=>?_)
  refine bX 11 7 rfl 99 #[] #[.pointer (some ⟨bb,0,none⟩),.pointer (some ⟨dd,0,none⟩)] (fun vs=>by kernel_rfl) #[.tmp 10] #[22] rfl (by first|rfl|simp[Act.eval]) #[.slice (some ⟨w1.heap.size,0,none⟩) 3 3,.pointer (some ⟨bb,0,none⟩),.pointer (some ⟨dd,0,none⟩)] (by first|rfl|simp[Act.eval]) (gQ (qI.below b9) (lZ (ps:=[⟨#[114,101,115,101,114,118,101,100,32]⟩,jt,⟨#[59]⟩]) (c:=3) rfl qI.bi.lt.2) (ab Hl) (by simp)) (by rfl) ?_
  rintro e w2 ⟨rfl,BP,ra⟩
  have HE:=ak (show wu W B bb dd _ n w (.returned (.tuple #[])) w2 from ⟨rfl,BP,((Kp.below aY).trans (Kp.below b9)).trans ra⟩)
  have zT:w2.cell? ⟨pp,0,none⟩=some (.func (.func 99) #[] #[.pointer (some ⟨bb,0,none⟩),.pointer (some ⟨dd,0,none⟩)]):=cell_of_row _ _ _ _ _ _ ((ab HE).2.2 _ _ _ _ (ab pt) (ab HPB) (by decide))
  refine ⟨_,rfl,hK _ _ ⟨fun _=>zT,?_⟩⟩
  clear hK K bL D' BP ra aY b9 qI HJ HP
  simp only[Act.put,zL,zM,zN]
  refine aQ (by kernel_rfl) ?_
  go_wp2
  refine bodyPost_ret (results_none rfl _ _ _) rfl ?_
  exact ab HE
 ·have e0:decide ((0:Int)<(ts.length:Int))=false:=decide_eq_false (by omega)
  have hr:qX n ts=[]:=by unfold qX;rw[if_neg h0]
  rw[hr,List.append_nil]
  have HE:=ak (show wu W B bb dd L n w (.returned (.tuple #[])) w from ⟨rfl,h,Kp.refl _ _⟩)
  clear h hp hu hl hr Tm
  go_enter Tryz.func222,Tryz.ntmps222
  go_wp2
  refine bodyPost_ret (results_none rfl _ _ _) rfl ?_
  exact ab HE
end Go.Proofs.YtghioefalckgoaaGreatDoor
namespace Go.Proofs.YtghioefalckgoaaGreatDoor
open Go.RowKit
attribute [local go_sem ↓] Go.wp_at_zero Go.wp_at_succ
def dS (bb dd ll:Nat):Array Value:=#[bF bb dd,bN ll dd,bJ bb]
noncomputable def kh (s:ByteArray):ByteArray:=zS (34::nF s 0++[34])
theorem UF {w:World} (hP:gG w) {mm:Nat}{most a b:Int} (hm:w.heap[mm]?=some (.cells #[.int .i64 most] 3 (0,0))) (ha:-2147483648≤a∧a≤2147483647) (hb:-2147483648≤b∧b≤2147483647) :
  Calls Tryz.prog 225 #[.agg #[.int .i64 a,.int .i64 b],.pointer (some ⟨mm,0,none⟩)] w fun e w'=>e=.returned (.string (yr most (a,b)))∧Below w.heap.size w w':=by
 have hn:=aE w (.cells #[.int .i64 a,.int .i64 b] 83)
 have bq:Below w.heap.size w (w.alloc (.cells #[.int .i64 a,.int .i64 b] 83)):=(zE _ _).alloc (zD _) _
 have Q8:=(bq.block _ (zA hm).1).trans hm
 obtain ⟨V,hV⟩:∃V,w.alloc (.cells #[.int .i64 a,.int .i64 b] 83)=V:=⟨_,rfl⟩
 rw[hV] at hn bq Q8
 have c0:V.cell? ⟨w.heap.size,0,none⟩=some (.int .i64 a):=cell_of_row _ _ _ _ _ _ hn
 have c1:V.cell? ⟨w.heap.size,1,none⟩=some (.int .i64 b):=cell_of_row _ _ _ _ _ _ hn
 have m0:V.cell? ⟨mm,0,none⟩=some (.int .i64 most):=cell_of_row _ _ _ _ _ _ Q8
 have HR:=ak (AE (hP.up bq) a b most ha hb)
 have HB:=ak bq
 clear hn bq hm Q8 hP ha hb
 go_enter Tryz.func225,Tryz.ntmps225
 go_wp2_with fail
 refine (ab HR).mono ?_
 rintro e w1 ⟨rfl,aY⟩
 have ei:=ak ((ab HB).trans (aY.mono (ab HB).size))
 clear aY HR HB
 go_wp2
 go_ret
 exact ⟨rfl,ab ei⟩
noncomputable def lL (n:Nat) (most:Int) (rs:List (Int×Int)) (gs:List ByteArray):List Nat:=qX n (rs.map (yr most))++qX n (gs.map kh)
theorem oH {W w:World}{B bb dd ll:Nat}{L:List Nat}{n:Nat} (h:Pn W B bb dd L n w) (hP:gG W) (hF:jS W) {v u:Value}{rs:List (Int×Int)}{gs:List ByteArray}{most:Int} (hv:Rl W v rs.length (eP rs)) (hu:Rl W u gs.length (bj gs))
  (hr:rs.length≤4096) (mH:∀r ∈ rs,(-2147483648≤r.1∧r.1≤2147483647)∧(-2147483648≤r.2∧r.2≤2147483647)) (hg:gs.length≤4096) (cE:∀s ∈ gs,s.size≤1048576) (hl:L.length+(lL n most rs gs).length≤1099511627776) :
  Calls Tryz.prog 156 #[.agg (dS bb dd ll),v,.int .i64 most,u] w (wu W B bb dd (L++lL n most rs gs) n w):=by
 have aU:=h.bi.lt.2
 have s1:=zJ w (.cells (dS bb dd ll) 101)
 have k1:=aE w (.cells (dS bb dd ll) 101)
 have k2:=aE (w.alloc (.cells (dS bb dd ll) 101)) (.cells #[.int .i64 most] 3)
 rw[s1] at k2
 have uY:=(Below.heap_alloc (w.alloc (.cells (dS bb dd ll) 101)) (.cells #[.int .i64 most] 3) _ (by rw[s1];omega)).trans k1
 have la:Below w.heap.size w ((w.alloc (.cells (dS bb dd ll) 101)).alloc (.cells #[.int .i64 most] 3)):=((zE _ _).alloc (zD _) _).alloc (by omega) _
 unfold dS at uY k2 la ⊢
 obtain ⟨V,hV⟩:∃V,(w.alloc (.cells #[bF bb dd,bN ll dd,bJ bb] 101)).alloc (.cells #[.int .i64 most] 3)=V:=⟨_,rfl⟩
 rw[hV] at uY k2 la
 have Ve:=h.below la
 have YI:=ak (FV (T:=yr most) hv hr (f:=⟨225,#[],#[.pointer (some ⟨w.heap.size+1,0,none⟩)]⟩) (fun vs w=>by kernel_rfl) V Ve.bh (fun r hr3 w' gS=>by
  have hm:=(gS.block _ (zA k2).1).trans k2
  exact UF (hP.up (Ve.bh.trans (gS.mono Ve.bh.size))) hm (mH r hr3).1 (mH r hr3).2))
 have YJ:=ak (fun w' (gS:Below W.heap.size W w')=>FU (T:=kh) hu hg (f:=⟨61,#[],#[]⟩) (fun vs w=>by kernel_rfl) w' gS (fun s hs w2 b9=>xw (hF.up (gS.trans (b9.mono gS.size))) s (cE s hs)))
 have Li:=ak (show Kp bb w V from Kp.below la)
 have HPV:=ak Ve
 have x8:=ak uY
 have pt:=ak (show w.heap.size≠bb by omega)
 have Hl:=ak hl
 have Hr:=ak hr
 have Hg:=ak hg
 clear Ve la k1 uY k2 s1 aU h hP hF mH cE hr hg hl
 obtain ⟨av,cv,rfl,-,-⟩:=hv
 obtain ⟨au,cu,rfl,-,-⟩:=hu
 unfold lL at Hl ⊢
 unfold Fv.val at YI YJ
 simp only at YI YJ
 unfold bF bN bJ at hV x8 ⊢
 go_enter Tryz.func156,Tryz.ntmps156
 go_wp2_with fail
 refine (ab YI).mono ?_
 rintro e w1 ⟨u1,rfl,cT,aY⟩
 have qI:=(ab HPV).below aY
 have rb:=(aY.block _ (zA (ab x8)).1).trans (ab x8)
 have Lh:=ak ((ab Li).trans (Kp.below aY))
 have xf:=ak (AU (ts:=rs.map (yr most)) qI rb (ab pt) (by rw[List.length_map];exact cT) (by rw[List.length_map];exact ab Hr) (by have:=ab Hl;rw[zK] at this;omega))
 have Xc:=ak rb
 obtain ⟨a1,l1,c1,rfl⟩:∃a l c,u1=.slice a l c:=by
  obtain ⟨h1,⟨rfl,h2⟩|⟨g,c,cur,rfl,h3⟩⟩:=cT
  ·exact ⟨none,0,0,rfl⟩
  ·exact ⟨_,_,_,rfl⟩
 clear qI rb cT aY YI HPV Li x8
 go_wp2_with fail
 refine (ab xf).mono ?_
 rintro e w2 ⟨rfl,BP,ra⟩
 have T1:=ak (ab YJ w2 BP.bh)
 have gH:=ak BP
 have Xb:=ak ((ab Lh).trans ra)
 have SQ:=ak (ra _ _ _ _ (ab pt) (ab Xc) (by decide))
 clear BP ra xf Lh Xc YJ
 go_wp2_with fail
 refine (ab T1).mono ?_
 rintro e w3 ⟨u3,rfl,lI,cY⟩
 have qH:=(ab gH).below cY
 have GK:=(cY.block _ (zA (ab SQ)).1).trans (ab SQ)
 have Xa:=ak ((ab Xb).trans (Kp.below cY))
 have HL3:=ak (AU (ts:=gs.map kh) qH GK (ab pt) (by rw[List.length_map];exact lI) (by rw[List.length_map];exact ab Hg) (by rw[zK];have:=ab Hl;rw[zK] at this;omega))
 obtain ⟨a3,l3,c3,rfl⟩:∃a l c,u3=.slice a l c:=by
  obtain ⟨h1,⟨rfl,h2⟩|⟨g,c,cur,rfl,h3⟩⟩:=lI
  ·exact ⟨none,0,0,rfl⟩
  ·exact ⟨_,_,_,rfl⟩
 clear qH GK lI cY T1 gH Xb SQ
 go_wp2_with fail
 refine (ab HL3).mono ?_
 rintro e w4 ⟨rfl,O4,vw⟩
 rw[List.append_assoc] at O4
 have HE:=ak (show wu W B bb dd _ n w (.returned (.tuple #[])) w4 from ⟨rfl,O4,(ab Xa).trans vw⟩)
 clear O4 vw HL3 Xa
 go_wp2
 refine bodyPost_ret (results_none rfl _ _ _) rfl ?_
 exact ab HE
theorem RL {w:World}{b:Nat}{v0 v1 v2 v3:Value}{t:TypeId} (hn:w.heap[b]?=some (.cells #[v0,v1,v2,v3] t (0,0))):w.cell? ⟨b,0,none⟩=some v0∧w.cell? ⟨b,1,none⟩=some v1∧w.cell? ⟨b,2,none⟩=some v2∧w.cell? ⟨b,3,none⟩=some v3 :=
 ⟨cell_of_row _ _ _ _ _ _ hn,cell_of_row _ _ _ _ _ _ hn,cell_of_row _ _ _ _ _ _ hn,cell_of_row _ _ _ _ _ _ hn⟩
def UA:ByteArray:=⟨#[32,61,32]⟩
def mO (n:Nat) (v:ByteArray×Int):List Nat:=bK n [v.1,UA,j5 v.2,fM]
noncomputable def fx (n:Nat) (e:En):List Nat:=lL n 2147483647 e.res e.gone++e.aW.flatMap (mO n)
theorem B0 {W w:World}{B bb dd ll:Nat}{L:List Nat}{n:Nat} (h:Pn W B bb dd L n w) (hP:gG W) (hF:jS W) {e:En}{vv vr vg:Value} (hv:Rl W vv e.aW.length (mR e.aW)) (hr:Rl W vr e.res.length (eP e.res)) (hg:Rl W vg e.gone.length (bj e.gone))
  (O0:e.res.length≤4096) (mH:∀r ∈ e.res,(-2147483648≤r.1∧r.1≤2147483647)∧(-2147483648≤r.2∧r.2≤2147483647)) (bG:e.gone.length≤4096) (cE:∀s ∈ e.gone,s.size≤1048576) (Lw:∀v ∈ e.aW,-2147483648≤v.2∧v.2≤2147483647) (hl:L.length+(fx n e).length≤1099511627776) :
  Calls Tryz.prog 110 #[.agg (dS bb dd ll),.agg #[.string e.name,vv,vr,vg]] w (wu W B bb dd (L++fx n e) n w):=by
 have aU:=h.bi.lt.2
 have s1:=zJ w (.cells (dS bb dd ll) 101)
 have k1:=aE w (.cells (dS bb dd ll) 101)
 have k2:=aE (w.alloc (.cells (dS bb dd ll) 101)) (.cells #[.string e.name,vv,vr,vg] 63)
 rw[s1] at k2
 have uY:=(Below.heap_alloc (w.alloc (.cells (dS bb dd ll) 101)) (.cells #[.string e.name,vv,vr,vg] 63) _ (by rw[s1];omega)).trans k1
 have la:Below w.heap.size w ((w.alloc (.cells (dS bb dd ll) 101)).alloc (.cells #[.string e.name,vv,vr,vg] 63)):=((zE _ _).alloc (zD _) _).alloc (by omega) _
 have hlen:(fx n e).length=(lL n 2147483647 e.res e.gone).length+(e.aW.flatMap (mO n)).length:=by unfold fx;rw[zK]
 have HR:=ak (oH (ll:=ll) (most:=2147483647) (h.below la) hP hF hr hg O0 mH bG cE (by omega))
 unfold dS at uY k2 la HR ⊢
 obtain ⟨V,hV⟩:∃V,(w.alloc (.cells #[bF bb dd,bN ll dd,bJ bb] 101)).alloc (.cells #[.string e.name,vv,vr,vg] 63)=V:=⟨_,rfl⟩
 rw[hV] at uY k2 la HR
 obtain ⟨c0,c1,c2,c3⟩:=RL k2
 have p0:V.cell? ⟨w.heap.size,0,none⟩=some (bF bb dd):=cell_of_row _ _ _ _ _ _ uY
 have p1:V.cell? ⟨w.heap.size,1,none⟩=some (bN ll dd):=cell_of_row _ _ _ _ _ _ uY
 have p2:V.cell? ⟨w.heap.size,2,none⟩=some (bJ bb):=cell_of_row _ _ _ _ _ _ uY
 obtain ⟨av,cv,rfl,Ng,QV⟩:=hv
 obtain ⟨ar,cr,rfl,-,-⟩:=hr
 obtain ⟨ag,cg,rfl,-,-⟩:=hg
 have HV:=ak QV
 have Li:=ak (show Kp bb w V from Kp.below la)
 have x8:=ak uY
 have jT:=ak k2
 have pt:=ak (show w.heap.size≠bb by omega)
 have aaT:=ak (show w.heap.size+1≠bb by omega)
 unfold bF bN bJ at hV x8 HR ⊢
 unfold bF at p0
 unfold bN at p1
 unfold bJ at p2
 clear k1 uY k2 la s1 aU h O0 mH bG cE hF hlen
 go_enter Tryz.func110,Tryz.ntmps110
 go_wp2_with fail
 refine (ab HR).mono ?_
 rintro e' w1 ⟨rfl,qI,rb⟩
 have j1:=rb _ _ _ _ (ab pt) (ab x8) (by decide)
 have j2:=rb _ _ _ _ (ab aaT) (ab jT) (by decide)
 obtain ⟨d0,d1,d2,d3⟩:=RL j2
 have BD:=ak qI
 have Lh:=ak ((ab Li).trans rb)
 have pF:=ak j1
 have Hl:=ak hl
 have HvB:=ak Lw
 have Lf:Hid (∀w,Below W.heap.size W w→gG w):=fun w h=>hP.up h
 clear c0 c1 c2 c3 p0 p1 p2 qI rb j1 j2 hl Lw hP HR Li x8 jT hV
 go_wp2_with fail
 clear d0 d1 d2 d3
 go_loopg [5,15] e.aW.length (fun gk _ v15 wr=>∃(i:Nat),v15=.int .i64 (i:Int)∧gk=e.aW.length-i∧i≤e.aW.length∧Hid (Pn W B bb dd (L++lL n 2147483647 e.res e.gone++(e.aW.take i).flatMap (mO n)) n wr)∧Hid (Kp bb w wr)∧Hid (wr.heap[w.heap.size]?=some (.cells #[.func (.func 99) #[] #[.pointer (some ⟨bb,0,none⟩),.pointer (some ⟨dd,0,none⟩)],.func (.func 103) #[] #[.pointer (some ⟨ll,0,none⟩),.pointer (some ⟨dd,0,none⟩)],.func (.func 104) #[.pointer (some ⟨bb,0,none⟩)] #[]] 101 (0,0))))
 case atStart=>exact ⟨0,rfl,rfl,by omega,by rw[List.take_zero,List.flatMap_nil,List.append_nil];exact BD,Lh,pF⟩
 case round =>
  obtain ⟨i,rfl,bd,hi,gH,jT,BH⟩:=hrel
  have bH:=ak bd
  clear bd BD Lh pF
  by_cases aU:i<e.aW.length
  ·obtain ⟨g,o,rfl,hg,hc⟩:=ab HV (by omega)
   have hr:=List.getElem?_eq_getElem aU
   have bQ:=List.getElem_mem aU
   obtain ⟨r,oW⟩:∃r,e.aW[i]=r:=⟨_,rfl⟩
   rw[oW] at hr bQ
   have x0:=((ab gH).bh.cell (p:=⟨g,o+(i*2+0),none⟩) hg).trans (hc _ _ (kG hr (j:=0) (by decide)))
   have x1:=((ab gH).bh.cell (p:=⟨g,o+(i*2+1),none⟩) hg).trans (hc _ _ (kG hr (j:=1) (by decide)))
   rw[Nat.add_zero] at x0
   rw[←Nat.add_assoc] at x1
   have gR:(e.aW.take (i+1)).flatMap (mO n)=(e.aW.take i).flatMap (mO n)++mO n r:=by
    obtain ⟨Nk,rfl⟩:=zB hr
    rw[List.take_succ_eq_append_getElem Nk,List.flatMap_append]
    simp
   have fR:(L++lL n 2147483647 e.res e.gone++(e.aW.take i).flatMap (mO n)).length+(mO n r).length≤1099511627776:=by
    have h1:(fx n e).length=(lL n 2147483647 e.res e.gone).length+((e.aW.take (i+1)).flatMap (mO n)).length+((e.aW.drop (i+1)).flatMap (mO n)).length:=by
     have e2:e.aW.flatMap (mO n)=(e.aW.take (i+1)).flatMap (mO n)++(e.aW.drop (i+1)).flatMap (mO n):=by rw[←List.flatMap_append,List.take_append_drop]
     unfold fx
     rw[zK,e2,zK]
     omega
    rw[gR,zK] at h1
    rw[zK,zK]
    have:=ab Hl
    omega
   have cy:=aE wr (.cells #[.string r.1,.int .i64 r.2] 65)
   have bq:Below wr.heap.size wr (wr.alloc (.cells #[.string r.1,.int .i64 r.2] 65)):=(zE _ _).alloc (zD _) _
   obtain ⟨X,hX⟩:∃X,wr.alloc (.cells #[.string r.1,.int .i64 r.2] 65)=X:=⟨_,rfl⟩
   rw[hX] at cy bq
   have BO:=(ab gH).below bq
   have jX:=(bq.block _ (zA (ab BH)).1).trans (ab BH)
   have hTX:(fun w':World=>w'.cell? ⟨w.heap.size,0,none⟩=some (.func (.func 99) #[] #[.pointer (some ⟨bb,0,none⟩),.pointer (some ⟨dd,0,none⟩)])∧w'.cell? ⟨wr.heap.size,0,none⟩=some (.string r.1)∧w'.cell? ⟨wr.heap.size,1,none⟩=some (.int .i64 r.2)) X:=⟨cell_of_row _ _ _ _ _ _ jX,cell_of_row _ _ _ _ _ _ cy,cell_of_row _ _ _ _ _ _ cy⟩
   have hT:(fun w':World=>w'.cell? ⟨w.heap.size,0,none⟩=some (.func (.func 99) #[] #[.pointer (some ⟨bb,0,none⟩),.pointer (some ⟨dd,0,none⟩)])∧w'.cell? ⟨wr.heap.size,0,none⟩=some (.string r.1)∧w'.cell? ⟨wr.heap.size,1,none⟩=some (.int .i64 r.2)) X.drew:=hTX
   have i0:(0:Int)≤(i:Int):=zH _
   have i1:(i:Int)<(e.aW.length:Int):=by omega
   have bn:=ak aU
   have uu:=ak jX
   have gI:=ak cy
   have BF:=ak (show Kp bb w X from (ab jT).trans (Kp.below bq))
   have TZ:=ak (fun w' (h:gG w')=>oR h r.2 (by have:=ab HvB r bQ;omega) (by have:=ab HvB r bQ;omega))
   have pD:=ak fR
   have xa:=ak gR
   have BA:=ak (show wr.heap.size≠bb by have:=(ab gH).bi.lt.2;omega)
   clear hc hr bQ oW gR fR cy jX hTX aU
   go_upto_region 5 with fail
   refine wp_region_any (by kernel_rfl) (aV (z:=99) (T:=fun w'=>w'.cell? ⟨w.heap.size,0,none⟩=some (.func (.func 99) #[] #[.pointer (some ⟨bb,0,none⟩),.pointer (some ⟨dd,0,none⟩)])∧w'.cell? ⟨wr.heap.size,0,none⟩=some (.string r.1)∧w'.cell? ⟨wr.heap.size,1,none⟩=some (.int .i64 r.2)) _ _ _ _ ?_)
   try (change ba _ _ _ _ _ _ _ _ _ (World.drew _))
   refine aw 0 (.pointer (some ⟨w.heap.size,0,none⟩)) 19 rfl rfl (Or.inl ⟨by rfl,fun w' hw=>by obtain ⟨bZ,bM,br⟩:=hw;go_simp⟩) hT ?_
   simp only[Act.put,zL,zM,zN]
   refine aw 1 (.func (.func 99) #[] #[.pointer (some ⟨bb,0,none⟩),.pointer (some ⟨dd,0,none⟩)]) 20 rfl rfl (Or.inl ⟨by rfl,fun w' hw=>by obtain ⟨bZ,bM,br⟩:=hw;go_simp⟩) hT ?_
   simp only[Act.put,zL,zM,zN]
   refine aw 2 (.pointer (some ⟨wr.heap.size,0,none⟩)) 21 rfl rfl (Or.inl ⟨by rfl,fun w' hw=>by obtain ⟨bZ,bM,br⟩:=hw;go_simp⟩) hT ?_
   simp only[Act.put,zL,zM,zN]
   refine aw 3 (.string r.1) 22 rfl rfl (Or.inl ⟨by rfl,fun w' hw=>by obtain ⟨bZ,bM,br⟩:=hw;go_simp⟩) hT ?_
   simp only[Act.put,zL,zM,zN]
   refine aw 4 (.pointer (some ⟨wr.heap.size,1,none⟩)) 23 rfl rfl (Or.inl ⟨by rfl,fun w' hw=>by obtain ⟨bZ,bM,br⟩:=hw;go_simp⟩) hT ?_
   simp only[Act.put,zL,zM,zN]
   refine aw 5 (.int .i64 r.2) 24 rfl rfl (Or.inl ⟨by rfl,fun w' hw=>by obtain ⟨bZ,bM,br⟩:=hw;go_simp⟩) hT ?_
   simp only[Act.put,zL,zM,zN]
   refine aB 6 (by kernel_rfl) rfl (fun K hK=>?_)
   refine aM 25 rfl rfl 160 (fun vs=>by kernel_rfl) #[.tmp 24] #[3] rfl #[.int .i64 r.2] (by first|rfl|simp[Act.eval]) (ab TZ X.drew (ab Lf _ (below_drewN BO.bh 1))) ?_
   rintro e' w3 ⟨rfl,cY⟩
   have cY:Below X.heap.size X w3:=⟨cY.os,cY.tape,cY.output,cY.size,cY.block⟩
   have qH:=BO.below cY
   have GK:=(ab BF).trans (Kp.below cY)
   have zT:(fun w':World=>w'.cell? ⟨w.heap.size,0,none⟩=some (.func (.func 99) #[] #[.pointer (some ⟨bb,0,none⟩),.pointer (some ⟨dd,0,none⟩)])∧w'.cell? ⟨wr.heap.size,0,none⟩=some (.string r.1)∧w'.cell? ⟨wr.heap.size,1,none⟩=some (.int .i64 r.2)) w3:=⟨cell_of_row _ _ _ _ _ _ ((cY.block _ (zA (ab uu)).1).trans (ab uu)),cell_of_row _ _ _ _ _ _ ((cY.block _ (zA (ab gI)).1).trans (ab gI)),cell_of_row _ _ _ _ _ _ ((cY.block _ (zA (ab gI)).1).trans (ab gI))⟩
   refine ⟨_,rfl,hK _ _ ⟨fun _=>zT,?_⟩⟩
   clear hK K hT
   simp only[Act.put,zL,zM,zN]
   have lb:Below w3.heap.size w3 (w3.alloc (.cells #[.string r.1,.string ⟨#[32,61,32]⟩,.string (j5 r.2),.string ⟨#[59]⟩] 9)):=(zE _ _).alloc (zD _) _
   have BS:(fun w':World=>w'.cell? ⟨w.heap.size,0,none⟩=some (.func (.func 99) #[] #[.pointer (some ⟨bb,0,none⟩),.pointer (some ⟨dd,0,none⟩)])∧w'.cell? ⟨wr.heap.size,0,none⟩=some (.string r.1)∧w'.cell? ⟨wr.heap.size,1,none⟩=some (.int .i64 r.2)) (w3.alloc (.cells #[.string r.1,.string ⟨#[32,61,32]⟩,.string (j5 r.2),.string ⟨#[59]⟩] 9)):=⟨cell_of_row _ _ _ _ _ _ (((Kp.below cY).trans (Kp.below lb)) _ _ _ _ (ab pt) (ab uu) (by decide)),cell_of_row _ _ _ _ _ _ (((Kp.below cY).trans (Kp.below lb)) _ _ _ _ (ab BA) (ab gI) (by decide)),cell_of_row _ _ _ _ _ _ (((Kp.below cY).trans (Kp.below lb)) _ _ _ _ (ab BA) (ab gI) (by decide))⟩
   refine aB 7 (by kernel_rfl) rfl (fun K hK=>?_)
   go_simp
   refine hK _ _ ⟨fun _=>BS,?_⟩
   clear hK K
   refine aB 8 (by kernel_rfl) rfl (fun K hK=>?_)
   refine bX 27 20 rfl 99 #[] #[.pointer (some ⟨bb,0,none⟩),.pointer (some ⟨dd,0,none⟩)] (fun vs=>by kernel_rfl) #[.tmp 26] #[22] rfl (by first|rfl|simp[Act.eval]) #[.slice (some ⟨w3.heap.size,0,none⟩) 4 4,.pointer (some ⟨bb,0,none⟩),.pointer (some ⟨dd,0,none⟩)] (by first|rfl|simp[Act.eval]) (gQ (qH.below lb) (lZ (ps:=[r.1,⟨#[32,61,32]⟩,j5 r.2,⟨#[59]⟩]) (c:=4) rfl qH.bi.lt.2) (ab pD) (by simp)) (by rfl) ?_
   rintro e' w5 ⟨rfl,nk,vu⟩
   have iO:Kp bb X w5:=((Kp.below cY).trans (Kp.below lb)).trans vu
   have xd:=ak (show Pn W B bb dd (L++lL n 2147483647 e.res e.gone++(e.aW.take (i+1)).flatMap (mO n)) n w5 by rw[ab xa,←List.append_assoc];exact nk)
   have Dn:=ak ((ab BF).trans iO)
   have Gv:=ak (iO _ _ _ _ (ab pt) (ab uu) (by decide))
   have yT:(fun w':World=>w'.cell? ⟨w.heap.size,0,none⟩=some (.func (.func 99) #[] #[.pointer (some ⟨bb,0,none⟩),.pointer (some ⟨dd,0,none⟩)])∧w'.cell? ⟨wr.heap.size,0,none⟩=some (.string r.1)∧w'.cell? ⟨wr.heap.size,1,none⟩=some (.int .i64 r.2)) w5:=⟨cell_of_row _ _ _ _ _ _ (ab Gv),cell_of_row _ _ _ _ _ _ (iO _ _ _ _ (ab BA) (ab gI) (by decide)),cell_of_row _ _ _ _ _ _ (iO _ _ _ _ (ab BA) (ab gI) (by decide))⟩
   refine ⟨_,rfl,hK _ _ ⟨fun _=>yT,?_⟩⟩
   clear hK K zT BS yT nk vu iO cY lb qH GK BO bq BF uu gI TZ pD xa gH jT BH
   simp only[Act.put,zL,zM,zN]
   refine aQ (by kernel_rfl) ?_
   go_wp2
   go_roundg (e.aW.length-(i+1))
   case measure=>have:=ab bH;have:=ab bn;omega
   case rel=>exact ⟨i+1,by go_num,rfl,ab bn,xd,Dn,Gv⟩
  ·obtain rfl:i=e.aW.length:=by omega
   have yU:=ab gH
   rw[List.take_length,List.append_assoc] at yU
   have HE:=ak (show wu W B bb dd (L++fx n e) n w (.returned (.tuple #[])) wr from ⟨rfl,yU,ab jT⟩)
   clear yU gH jT
   go_wp2
   refine bodyPost_ret (results_none rfl _ _ _) rfl ?_
   exact ab HE
end Go.Proofs.YtghioefalckgoaaGreatDoor

import Derived.Test.YtghioefalckgoaaGreatDoorYAi
set_option maxHeartbeats 4000000
set_option maxRecDepth 100000
namespace Go.Proofs.YtghioefalckgoaaGreatDoor
open Go.RowKit
attribute [local go_sem ↓] Go.wp_at_zero Go.wp_at_succ
theorem qF:∀f,Ok f
 |0=>by
  intro W w B bb dd ll L n m vf vo vm ve vr vg nm fs os ms es rs gs cm ce h hP hF hd fa vX hn fR hV nn hl
  exact nn.elim
 |f+1=>yH f (qF f)
theorem E' (W:World):Calls Tryz.prog 60 #[] W fun e w=>∃bb dd ll,(W.heap.size≤bb∧W.heap.size≤dd∧W.heap.size≤ll∧ll≠bb∧ll≠dd)∧e=.returned (.agg #[bF bb dd,bN ll dd,bJ bb])∧Pn W bb bb dd [] 0 w∧w.heap[ll]?=some (.cells #[bF bb dd] 97 (0,0)):=by
 refine (Cv W).mono ?_
 rintro e w ⟨rfl,h1,h2⟩
 exact ⟨_,_,_,⟨by omega,by omega,by omega,by omega,by omega⟩,rfl,h1,h2⟩
def iJ:ByteArray:=⟨#[115,121,110,116,97,120,32,61,32,34,112,114,111,116,111,51,34,59]⟩
def oE:ByteArray:=⟨#[112,97,99,107,97,103,101,32]⟩
def oF:ByteArray:=⟨#[105,109,112,111,114,116,32]⟩
noncomputable def oT (s:ByteArray):List Nat:=bK 0 [oF,kh s,fM]
def qY (p:ByteArray):List Nat:=if p.toList.isEmpty then [] else bK 0 [oE,p,fM]
noncomputable def gu (F:Fl):List Nat:=bK 0 [iJ]++qY F.dj++F.bp.flatMap oT++q7 32 0 F.ms F.es
theorem z8 {W:World}{v vi vm ve:Value}{F:Fl}{cm ce:List Value} (hP:gG W) (hF:jS W) (vC:zy W v F vi vm ve cm ce) (hi1:F.bp.length≤4096) (fY:∀s ∈ F.bp,s.size≤1048576) (O6:∀m ∈ F.ms,Pz 32 m) (Pf:∀e ∈ F.es,Oi e) (hl:(gu F).length≤1099511627776) (jD:pz (gu F)) :
  Calls Tryz.prog 31 #[v] W fun e w=>e=.returned (.string (zS (gu F)))∧Below W.heap.size W w:=by
 obtain ⟨rfl,UY,BN,eI,xL,ep⟩:=vC
 have bq:Below W.heap.size W (W.alloc (.cells #[.string F.dj,vi,vm,ve] 26)):=(zE _ _).alloc (zD _) _
 have k0:=aE W (.cells #[.string F.dj,vi,vm,ve] 26)
 obtain ⟨V,hV⟩:∃V,W.alloc (.cells #[.string F.dj,vi,vm,ve] 26)=V:=⟨_,rfl⟩
 rw[hV] at bq k0
 have SR:=ak (fun (bb dd ll:Nat) (w:World) (B:Nat) (L:List Nat) (h:Pn V B bb dd L 0 w) hd fa vX fR hl'=>xI 32 (qF 32) (ll:=ll) (n:=0) h (hP.up bq) (hF.up bq) hd fa vX (by decide) fR (BN.up bq) (eI.up bq) (xL.up bq) (ep.up bq) O6 Pf hl')
 have HvI:=ak (UY.up bq)
 have HF:=ak (hF.up bq)
 have G0:=ak bq
 have Li:=ak k0
 have hVs:V.heap.size=W.heap.size+1:=by rw[←hV,zJ]
 obtain ⟨ai,ci,rfl,hni,aap⟩:=UY
 obtain ⟨am,cq,rfl,Vh,aao⟩:=BN
 obtain ⟨ae,cn,rfl,jN,aaq⟩:=xL
 have HN:=ak (E' V)
 have Hi1:=ak hi1
 have Hi2:=ak fY
 have Hl:=ak hl
 have WZ:=ak jD
 have PH:=ak hVs
 clear hP hF eI ep hi1 fY O6 Pf hl jD bq k0 aap aao aaq hVs
 go_enter Tryz.func31,Tryz.ntmps31
 go_wp2_with fail
 refine (ab HN).mono ?_
 rintro e' w1 ⟨bb,dd,ll,⟨dJ,Tu,tz,fa,vX⟩,rfl,qI,Ra⟩
 have aY:Below w1.heap.size w1 (w1.alloc (.cells #[bF bb dd,bN ll dd,bJ bb] 101)):=(zE _ _).alloc (zD _) _
 have k1:=aE w1 (.cells #[bF bb dd,bN ll dd,bJ bb] 101)
 obtain ⟨X,hX⟩:∃X,w1.alloc (.cells #[bF bb dd,bN ll dd,bJ bb] 101)=X:=⟨_,rfl⟩
 rw[hX] at aY k1
 have BD:=ak (qI.below aY)
 have YF:=ak ((aY.block _ (zA Ra).1).trans Ra)
 have x8:=ak k1
 have HkF:=ak (show X.heap[W.heap.size]?=_ from (Kp.below aY _ _ _ _ (show W.heap.size≠bb by have:=ab PH;omega) ((qI.bh.block _ (by have:=ab PH;omega)).trans (ab Li)) (by decide)))
 have pt:=ak (show w1.heap.size≠bb by have:=qI.bi.lt.2;omega)
 have Hfb:=ak (show W.heap.size≠bb by have:=ab PH;omega)
 have p0:X.cell? ⟨w1.heap.size,0,none⟩=some (bF bb dd):=cell_of_row _ _ _ _ _ _ k1
 have hlen:(gu F).length=(bK 0 [iJ]).length+(qY F.dj).length+(F.bp.flatMap oT).length+(q7 32 0 F.ms F.es).length:=by unfold gu;simp only[zK]
 have ql:=ak hlen
 have PG:Hid (∀w,Kp bb X w→w.heap[w1.heap.size]?=some (.cells #[bF bb dd,bN ll dd,bJ bb] 101 (0,0))∧w.heap[W.heap.size]?=some (.cells #[.string F.dj,.slice ai F.bp.length ci,.slice am F.ms.length cq,.slice ae F.es.length cn] 26 (0,0))∧w.heap[ll]?=some (.cells #[bF bb dd] 97 (0,0))) :=
  fun w hk=>⟨hk _ _ _ _ (ab pt) (ab x8) (by decide),hk _ _ _ _ (ab Hfb) (ab HkF) (by decide),hk _ _ _ _ fa (ab YF) (by decide)⟩
 unfold bF bN bJ at hX
 unfold bF at p0
 unfold bF bN bJ
 clear qI Ra aY k1 HN hV hlen YF x8 HkF
 go_wp2_with fail
 have b9:Below X.heap.size X (X.alloc (.cells (bj [iJ]).toArray 9)):=(zE _ _).alloc (zD _) _
 refine (gQ ((ab BD).below b9) (lZ (ps:=[iJ]) (c:=1) rfl (ab BD).bi.lt.2) (by have:=ab Hl;have:=ab ql;simp only[List.length_nil];omega) (by decide)).mono ?_
 rintro e' w2 ⟨rfl,BP,ra⟩
 rw[List.nil_append] at BP
 have ra:Kp bb X w2:=(Kp.below b9).trans ra
 obtain ⟨e1,e2,e3⟩:=ab PG w2 ra
 have gH:=ak BP
 have jT:=ak ra
 have f0:w2.cell? ⟨W.heap.size,0,none⟩=some (.string F.dj):=cell_of_row _ _ _ _ _ _ e2
 have q0:w2.cell? ⟨w1.heap.size,0,none⟩=some (bF bb dd):=cell_of_row _ _ _ _ _ _ e1
 unfold bF at q0
 clear BP ra b9 p0 BD hX e1 e2 e3
 go_upto_if 13 with fail
 go_cut [13] (fun _ wx=>Hid (Pn V bb bb dd (bK 0 [iJ]++qY F.dj) 0 wx)∧Hid (Kp bb X wx))
 case first =>
  cases hem:F.dj.toList.isEmpty with
  |true =>
   go_wp2_with fail
   go_meet
   refine ⟨?_,jT⟩
   unfold qY
   rw[if_pos hem,List.append_nil]
   exact gH
  |false =>
   go_wp2_with fail
   have b9:Below w2.heap.size w2 (w2.alloc (.cells (bj [oE,F.dj,fM]).toArray 9)):=(zE _ _).alloc (zD _) _
   refine (gQ ((ab gH).below b9) (lZ (ps:=[oE,F.dj,fM]) (c:=3) rfl (ab gH).bi.lt.2) (by have:=ab Hl;have hln:=ab ql;unfold qY at hln;rw[if_neg (by rw[hem];decide)] at hln;omega) (by simp)).mono ?_
   rintro e' w3 ⟨rfl,qH,GK⟩
   have wD:=ak qH
   have wE:=ak ((ab jT).trans ((Kp.below b9).trans GK))
   clear qH GK b9
   go_wp2_with fail
   go_meet
   refine ⟨?_,wE⟩
   unfold qY
   rw[if_neg (by rw[hem];decide)]
   exact wD
 case rest =>
  obtain ⟨wD,wE⟩:=hcut
  clear f0 q0 gH jT
  have f1:wc.cell? ⟨W.heap.size,1,none⟩=some (.slice ai F.bp.length ci):=cell_of_row _ _ _ _ _ _ (ab PG wc (ab wE)).2.1
  go_wp2_with fail
  clear f1
  go_loopg [5,23] F.bp.length (fun gk _ v23 wr=>∃(i:Nat),v23=.int .i64 (i:Int)∧gk=F.bp.length-i∧i≤F.bp.length∧Hid (Pn V bb bb dd (bK 0 [iJ]++qY F.dj++(F.bp.take i).flatMap oT) 0 wr)∧Hid (Kp bb X wr))
  case atStart=>exact ⟨0,rfl,rfl,by omega,by rw[List.take_zero,List.flatMap_nil,List.append_nil];exact wD,wE⟩
  case round =>
   obtain ⟨i,rfl,bd,hi,LQ,LR⟩:=hrel
   have bH:=ak bd
   clear bd wD wE
   by_cases aU:i<F.bp.length
   ·obtain ⟨a2,c2,he2,-,Lw⟩:=ab HvI
    obtain ⟨g,o,hai,hg,hc⟩:=Lw (by omega)
    simp only[Value.slice.injEq] at he2
    obtain ⟨rfl,-,rfl⟩:=he2
    subst hai
    have hr:=List.getElem?_eq_getElem aU
    have bQ:=List.getElem_mem aU
    obtain ⟨r,oW⟩:∃r,F.bp[i]=r:=⟨_,rfl⟩
    rw[oW] at hr bQ
    have x0:=((ab LQ).bh.cell (p:=⟨g,o+i,none⟩) hg).trans (hc _ _ (show (bj F.bp)[i]?=some (.string r) by unfold bj;rw[List.getElem?_map,hr];rfl))
    have gR:(F.bp.take (i+1)).flatMap oT=(F.bp.take i).flatMap oT++oT r:=by
     obtain ⟨Nk,rfl⟩:=zB hr
     rw[List.take_succ_eq_append_getElem Nk,List.flatMap_append]
     simp
    have fR:(bK 0 [iJ]++qY F.dj++(F.bp.take i).flatMap oT).length+(oT r).length≤1099511627776:=by
     have e2:F.bp.flatMap oT=(F.bp.take (i+1)).flatMap oT++(F.bp.drop (i+1)).flatMap oT:=by rw[←List.flatMap_append,List.take_append_drop]
     have h1:=ab ql
     rw[e2,gR] at h1
     simp only[zK] at h1 ⊢
     have:=ab Hl
     omega
    have VO:(fun w':World=>w'.cell? ⟨w1.heap.size,0,none⟩=some (.func (.func 99) #[] #[.pointer (some ⟨bb,0,none⟩),.pointer (some ⟨dd,0,none⟩)])) wr:=cell_of_row _ _ _ _ _ _ (ab PG wr (ab LR)).1
    have hT:(fun w':World=>w'.cell? ⟨w1.heap.size,0,none⟩=some (.func (.func 99) #[] #[.pointer (some ⟨bb,0,none⟩),.pointer (some ⟨dd,0,none⟩)])) wr.drew:=VO
    have i0:(0:Int)≤(i:Int):=zH _
    have i1:(i:Int)<(F.bp.length:Int):=by omega
    have bn:=ak aU
    have HQ:=ak (fun w' (h:jS w')=>xw h r (ab Hi2 r bQ))
    have pD:=ak fR
    have xa:=ak gR
    clear hc hr bQ oW gR fR aU VO
    go_upto_region 8 with fail
    refine wp_region_any (by kernel_rfl) (aV (z:=99) (T:=fun w'=>w'.cell? ⟨w1.heap.size,0,none⟩=some (.func (.func 99) #[] #[.pointer (some ⟨bb,0,none⟩),.pointer (some ⟨dd,0,none⟩)])) _ _ _ _ ?_)
    try (change ba _ _ _ _ _ _ _ _ _ (World.drew _))
    refine aw 0 (.pointer (some ⟨w1.heap.size,0,none⟩)) 27 rfl rfl (Or.inl ⟨by rfl,fun w' hw=>by go_simp⟩) hT ?_
    simp only[Act.put,zL,zM,zN]
    refine aw 1 (.func (.func 99) #[] #[.pointer (some ⟨bb,0,none⟩),.pointer (some ⟨dd,0,none⟩)]) 28 rfl rfl (Or.inl ⟨by rfl,fun w' hw=>by go_simp⟩) hT ?_
    simp only[Act.put,zL,zM,zN]
    refine aw 2 (.string r) 29 rfl rfl (Or.inl ⟨by rfl,fun w' hw=>by go_simp⟩) hT ?_
    simp only[Act.put,zL,zM,zN]
    refine aB 3 (by kernel_rfl) rfl (fun K hK=>?_)
    refine aM 30 rfl rfl 61 (fun vs=>by kernel_rfl) #[.tmp 29] #[9] rfl #[.string r] (by first|rfl|simp[Act.eval]) (ab HQ wr.drew ((ab HF).up (below_drewN (ab LQ).bh 1))) ?_
    rintro e' w3 ⟨rfl,cY⟩
    have cY:Below wr.heap.size wr w3:=⟨cY.os,cY.tape,cY.output,cY.size,cY.block⟩
    have qH:=(ab LQ).below cY
    have GK:=(ab LR).trans (Kp.below cY)
    have zT:(fun w':World=>w'.cell? ⟨w1.heap.size,0,none⟩=some (.func (.func 99) #[] #[.pointer (some ⟨bb,0,none⟩),.pointer (some ⟨dd,0,none⟩)])) w3:=cell_of_row _ _ _ _ _ _ (ab PG w3 GK).1
    refine ⟨_,rfl,hK _ _ ⟨fun _=>zT,?_⟩⟩
    clear hK K hT
    simp only[Act.put,zL,zM,zN]
    have lb:Below w3.heap.size w3 (w3.alloc (.cells #[.string oF,.string (kh r),.string fM] 9)):=(zE _ _).alloc (zD _) _
    have BS:(fun w':World=>w'.cell? ⟨w1.heap.size,0,none⟩=some (.func (.func 99) #[] #[.pointer (some ⟨bb,0,none⟩),.pointer (some ⟨dd,0,none⟩)])) (w3.alloc (.cells #[.string oF,.string (kh r),.string fM] 9)):=cell_of_row _ _ _ _ _ _ (ab PG _ (GK.trans (Kp.below lb))).1
    refine aB 4 (by kernel_rfl) rfl (fun K hK=>?_)
    go_simp
    refine hK _ _ ⟨fun _=>BS,?_⟩
    clear hK K
    refine aB 5 (by kernel_rfl) rfl (fun K hK=>?_)
    refine bX 32 28 rfl 99 #[] #[.pointer (some ⟨bb,0,none⟩),.pointer (some ⟨dd,0,none⟩)] (fun vs=>by kernel_rfl) #[.tmp 31] #[22] rfl (by first|rfl|simp[Act.eval]) #[.slice (some ⟨w3.heap.size,0,none⟩) 3 3,.pointer (some ⟨bb,0,none⟩),.pointer (some ⟨dd,0,none⟩)] (by first|rfl|simp[Act.eval]) (gQ (qH.below lb) (lZ (ps:=[oF,kh r,fM]) (c:=3) rfl qH.bi.lt.2) (ab pD) (by simp)) (by rfl) ?_
    rintro e' w5 ⟨rfl,nk,vu⟩
    have iO:Kp bb X w5:=GK.trans ((Kp.below lb).trans vu)
    have xd:=ak (show Pn V bb bb dd (bK 0 [iJ]++qY F.dj++(F.bp.take (i+1)).flatMap oT) 0 w5 by rw[ab xa,←List.append_assoc];exact nk)
    have Dn:=ak iO
    have yT:(fun w':World=>w'.cell? ⟨w1.heap.size,0,none⟩=some (.func (.func 99) #[] #[.pointer (some ⟨bb,0,none⟩),.pointer (some ⟨dd,0,none⟩)])) w5:=cell_of_row _ _ _ _ _ _ (ab PG _ iO).1
    refine ⟨_,rfl,hK _ _ ⟨fun _=>yT,?_⟩⟩
    clear hK K zT BS yT nk vu iO cY lb qH GK HQ pD xa LQ LR
    simp only[Act.put,zL,zM,zN]
    refine aQ (by kernel_rfl) ?_
    go_wp2
    go_roundg (F.bp.length-(i+1))
    case measure=>have:=ab bH;have:=ab bn;omega
    case rel=>exact ⟨i+1,by go_num,rfl,ab bn,xd,Dn⟩
   ·obtain rfl:i=F.bp.length:=by omega
    have yU:=ab LQ
    rw[List.take_length] at yU
    obtain ⟨e1,e2,e3⟩:=ab PG wr (ab LR)
    have HI:=ak (ab SR bb dd ll wr bb _ yU Tu fa vX e3 (by have:=ab Hl;have:=ab ql;simp only[zK];omega))
    have f2:wr.cell? ⟨W.heap.size,2,none⟩=some (.slice am F.ms.length cq):=cell_of_row _ _ _ _ _ _ e2
    have f3:wr.cell? ⟨W.heap.size,3,none⟩=some (.slice ae F.es.length cn):=cell_of_row _ _ _ _ _ _ e2
    have q0:wr.cell? ⟨w1.heap.size,0,none⟩=some (bF bb dd):=cell_of_row _ _ _ _ _ _ e1
    have q1:wr.cell? ⟨w1.heap.size,1,none⟩=some (bN ll dd):=cell_of_row _ _ _ _ _ _ e1
    have q2:wr.cell? ⟨w1.heap.size,2,none⟩=some (bJ bb):=cell_of_row _ _ _ _ _ _ e1
    unfold dS bF bN bJ at HI
    unfold bF at q0
    unfold bN at q1
    unfold bJ at q2
    clear yU e1 e2 e3 LQ
    go_wp2_with fail
    refine (ab HI).mono ?_
    rintro e' w5 ⟨rfl,nk,vu⟩
    have Dn:=ak ((ab LR).trans vu)
    have r2:w5.cell? ⟨w1.heap.size,2,none⟩=some (bJ bb):=cell_of_row _ _ _ _ _ _ (ab PG w5 (ab Dn)).1
    unfold bJ at r2
    have HS:=ak (aaF (show BI bb bb (gu F) w5 from nk.bi) (ab WZ) nk.size)
    have xd:=ak nk
    clear nk vu HI f2 f3 q0 q1 q2 LR
    go_wp2_with fail
    refine (ab HS).mono ?_
    rintro e' w6 ⟨rfl,lr⟩
    have HE:=ak (show Below W.heap.size W w6 from (ab G0).trans (((ab xd).bh.trans (lr.mono dJ)).mono (ab G0).size))
    clear lr HS xd
    go_wp2
    go_ret
    exact ⟨rfl,ab HE⟩
def pP (lo hi:Int) (r:Int×Int):Bool:=decide (lo≤r.1)&&decide (r.1≤r.2)&&decide (r.2≤hi)
def Gn (g h:Nat) (lo hi:Int) (_:Unit) (w:World):Prop:=w.heap[g]?=some (.cells #[.int .i64 lo] 3 (0,0))∧w.heap[h]?=some (.cells #[.int .i64 hi] 3 (0,0))
theorem DG (g h:Nat) (lo hi:Int):LI (Gn g h lo hi):=fun _ _ _ hj hg=>⟨(hg.block _ (zA hj.1).1 (by simp)).trans hj.1,(hg.block _ (zA hj.2).1 (by simp)).trans hj.2⟩
theorem UD {W:World}{g h:Nat}{lo hi:Int} (hj:Gn g h lo hi () W) (a b:Int):Calls Tryz.prog 146 #[.agg #[.int .i64 a,.int .i64 b],.pointer (some ⟨g,0,none⟩),.pointer (some ⟨h,0,none⟩)] W fun e w=>e=.returned (.bool (pP lo hi (a,b)))∧W.grownBy w none:=by
 have hn:=aE W (.cells #[.int .i64 a,.int .i64 b] 83)
 have c0:(W.alloc (.cells #[.int .i64 a,.int .i64 b] 83)).cell? ⟨W.heap.size,0,none⟩=some (.int .i64 a):=cell_of_row _ _ _ _ _ _ hn
 have c1:(W.alloc (.cells #[.int .i64 a,.int .i64 b] 83)).cell? ⟨W.heap.size,1,none⟩=some (.int .i64 b):=cell_of_row _ _ _ _ _ _ hn
 have g0:(W.alloc (.cells #[.int .i64 a,.int .i64 b] 83)).cell? ⟨g,0,none⟩=some (.int .i64 lo):=cell_of_row _ _ _ _ _ _ ((Below.heap_alloc _ _ _ (zA hj.1).1).trans hj.1)
 have h0:(W.alloc (.cells #[.int .i64 a,.int .i64 b] 83)).cell? ⟨h,0,none⟩=some (.int .i64 hi):=cell_of_row _ _ _ _ _ _ ((Below.heap_alloc _ _ _ (zA hj.2).1).trans hj.2)
 have HG:=ak (World.grownBy_alloc W (.cells #[.int .i64 a,.int .i64 b] 83) none)
 unfold pP
 simp only
 clear hn hj
 obtain ⟨q1,h1⟩:∃q,decide (lo≤a)=q:=⟨_,rfl⟩
 obtain ⟨q2,h2⟩:∃q,decide (a≤b)=q:=⟨_,rfl⟩
 rw[h1,h2]
 cases q1 with
 |false =>
  clear h2
  go_enter Tryz.func146,Tryz.ntmps146
  go_wp2
  go_ret
  exact ⟨rfl,ab HG⟩
 |true =>
  cases q2 with
  |false =>
   go_enter Tryz.func146,Tryz.ntmps146
   go_wp2
   go_ret
   exact ⟨rfl,ab HG⟩
  |true =>
   go_enter Tryz.func146,Tryz.ntmps146
   go_wp2
   go_ret
   exact ⟨rfl,ab HG⟩
theorem xF (W:World) (lo hi:Int):Calls Tryz.prog 93 #[.int .i64 lo,.int .i64 hi] W fun e w=>e=.returned (.func (.func 146) #[] #[.pointer (some ⟨W.heap.size,0,none⟩),.pointer (some ⟨W.heap.size+1,0,none⟩)])∧w=(W.alloc (.cells #[.int .i64 lo] 3)).alloc (.cells #[.int .i64 hi] 3):=by
 go_enter Tryz.func93,Tryz.ntmps93
 go_wp2
 go_ret
 exact ⟨rfl,rfl⟩
theorem Et {W:World}{v:Value}{l:List (Int×Int)}{g h:Nat}{lo hi:Int} (hv:Rl W v l.length (eP l)) (w0:World) (hw:Below W.heap.size W w0) (hj:Gn g h lo hi () w0) :
  Calls Tryz.prog 92 #[v,.func (.func 146) #[] #[.pointer (some ⟨g,0,none⟩),.pointer (some ⟨h,0,none⟩)]] w0 fun e w=>e=.returned (.bool (l.all (pP lo hi)))∧Below w0.heap.size w0 w:=by
 have hS:eo false W.heap.size W none (Gn g h lo hi) ⟨146,#[],#[.pointer (some ⟨g,0,none⟩),.pointer (some ⟨h,0,none⟩)]⟩ (lJ 2 (eP l)) l.length (fun i=>yes (((l[i]?).map (pP lo hi)).getD false)):=by
  intro i fY s w _ jO
  obtain ⟨a,b,e1,y0,y1⟩:=FT (yt l) fY
  have hl:=List.getElem?_eq_getElem fY
  have z0:=(fN hl (j:=0) (by decide)).symm.trans y0
  have z1:=(fN hl (j:=1) (by decide)).symm.trans y1
  obtain rfl:=zC z0
  obtain rfl:=zC z1
  have e2:((l[i]?).map (pP lo hi)).getD false=pP lo hi l[i]:=by rw[hl];rfl
  simp only[e1,e2,ya,Bool.false_bne]
  show Calls Tryz.prog 146 #[.agg #[.int .i64 l[i].1,.int .i64 l[i].2],.pointer (some ⟨g,0,none⟩),.pointer (some ⟨h,0,none⟩)] w _
  refine (UD jO l[i].1 l[i].2).mono ?_
  rintro e w' ⟨rfl,hg⟩
  exact ⟨rfl,fun _ _=>DG g h lo hi _ _ _ jO hg,hg⟩
 have:=KP hv (fun vs w=>by kernel_rfl) hS (fun _ e=>by cases e) (yt l) w0 () hw hj (DG g h lo hi) (fun _ e=>by cases e)
 refine this.mono ?_
 rintro e w ⟨rfl,_,hg⟩
 rw[mM (l:=l) (q:=pP lo hi) (fun i x hx=>by simp[hx]) rfl]
 exact ⟨rfl,hg.os,hg.tape,hg.output,hg.size,fun k hk=>hg.block k hk (by simp)⟩
noncomputable def ju (v:ByteArray×Int):Bool:=dG v.1&&!(v.1.toList==lg.toList)&&!(v.1.toList==gw.toList)&&(decide (-2147483648≤v.2)&&decide (v.2≤2147483647))
theorem EI (W:World) (s:ByteArray) (n:Int):Calls Tryz.prog 98 #[.agg #[.string s,.int .i64 n]] W fun e w=>e=.returned (.bool (ju (s,n)))∧W.grownBy w none:=by
 have hn:=aE W (.cells #[.string s,.int .i64 n] 65)
 have c0:(W.alloc (.cells #[.string s,.int .i64 n] 65)).cell? ⟨W.heap.size,0,none⟩=some (.string s):=cell_of_row _ _ _ _ _ _ hn
 have c1:(W.alloc (.cells #[.string s,.int .i64 n] 65)).cell? ⟨W.heap.size,1,none⟩=some (.int .i64 n):=cell_of_row _ _ _ _ _ _ hn
 have HG:=ak (World.grownBy_alloc W (.cells #[.string s,.int .i64 n] 65) none)
 have HW:=ak (fun w=>gN w s)
 have HN:=ak (fun w=>nw w n (-2147483648) 2147483647)
 unfold ju
 simp only
 obtain ⟨q1,h1⟩:∃q,dG s=q:=⟨_,rfl⟩
 obtain ⟨q2,h2⟩:∃q,(s.toList==[111,112,116,105,111,110])=q:=⟨_,rfl⟩
 obtain ⟨q3,h3⟩:∃q,(s.toList==[114,101,115,101,114,118,101,100])=q:=⟨_,rfl⟩
 obtain ⟨q4,h4⟩:∃q,(decide (-2147483648≤n)&&decide (n≤2147483647))=q:=⟨_,rfl⟩
 have e2:(s.toList==lg.toList)=q2:=by rw[←h2,toList_data lg];rfl
 have e3:(s.toList==gw.toList)=q3:=by rw[←h3,toList_data gw];rfl
 rw[h1] at HW ⊢
 rw[h4] at HN ⊢
 rw[e2,e3]
 clear h1 h4 e2 e3 hn
 go_enter Tryz.func98,Tryz.ntmps98
 go_wp2_with fail
 refine (ab HW _).mono ?_
 rintro e w ⟨rfl,rfl⟩
 cases q1 with
 |false =>
  go_wp2
  go_ret
  exact ⟨rfl,ab HG⟩
 |true =>
 cases q2 with
 |true =>
  go_wp2
  go_ret
  exact ⟨rfl,ab HG⟩
 |false =>
 cases q3 with
 |true =>
  go_wp2
  go_ret
  exact ⟨rfl,ab HG⟩
 |false =>
 go_wp2_with fail
 refine (ab HN _).mono ?_
 rintro e w' ⟨rfl,rfl⟩
 go_wp2
 go_ret
 exact ⟨rfl,ab HG⟩
theorem N9 {W:World}{v:Value}{l:List (ByteArray×Int)} (hv:Rl W v l.length (mR l)) (w0:World) (hw:Below W.heap.size W w0) :
  Calls Tryz.prog 97 #[v,.func (.func 98) #[] #[]] w0 fun e w=>e=.returned (.bool (l.all ju))∧Below w0.heap.size w0 w:=by
 have hS:eo false W.heap.size W none Yn ⟨98,#[],#[]⟩ (lJ 2 (mR l)) l.length (fun i=>yes (((l[i]?).map ju).getD false)):=by
  intro i fY s w _ _
  obtain ⟨a,b,e1,y0,y1⟩:=FT (Eh l) fY
  have hl:=List.getElem?_eq_getElem fY
  have z0:=(kG hl (j:=0) (by decide)).symm.trans y0
  have z1:=(kG hl (j:=1) (by decide)).symm.trans y1
  obtain rfl:=zC z0
  obtain rfl:=zC z1
  have e2:((l[i]?).map ju).getD false=ju l[i]:=by rw[hl];rfl
  simp only[e1,e2,ya,Bool.false_bne]
  show Calls Tryz.prog 98 #[.agg #[.string l[i].1,.int .i64 l[i].2]] w _
  refine (EI w l[i].1 l[i].2).mono ?_
  rintro e w' ⟨rfl,hg⟩
  exact ⟨rfl,fun _ _=>trivial,hg⟩
 have:=KN hv (fun vs w=>by kernel_rfl) hS (fun _ e=>by cases e) (Eh l) w0 () hw trivial Cf (fun _ e=>by cases e)
 refine this.mono ?_
 rintro e w ⟨rfl,_,hg⟩
 rw[mM (l:=l) (q:=ju) (fun i x hx=>by simp[hx]) rfl]
 exact ⟨rfl,hg.os,hg.tape,hg.output,hg.size,fun k hk=>hg.block k hk (by simp)⟩
theorem Ob {W:World} (hM:gj W) {v:Value}{l:List Fd} (hv:Rl W v l.length (cC l)) (iL:∀d ∈ l,d.ty.size≤281474976710656) (w0:World) (hw:Below W.heap.size W w0) :
  Calls Tryz.prog 89 #[v,.func (.func 90) #[] #[]] w0 fun e w=>e=.returned (.bool (l.all eK))∧Below w0.heap.size w0 w:=by
 have hS:eo false W.heap.size W none Yn ⟨90,#[],#[]⟩ (lJ 6 (cC l)) l.length (fun i=>yes (((l[i]?).map eK).getD false)):=by
  intro i fY s w hb _
  obtain ⟨a0,a1,a2,a3,a4,a5,e1,y0,y1,y2,y3,y4,y5⟩:=RM (Bl l) fY
  have hl:=List.getElem?_eq_getElem fY
  obtain rfl:=zC ((da hl (j:=0) (by decide)).symm.trans y0)
  obtain rfl:=zC ((da hl (j:=1) (by decide)).symm.trans y1)
  obtain rfl:=zC ((da hl (j:=2) (by decide)).symm.trans y2)
  obtain rfl:=zC ((da hl (j:=3) (by decide)).symm.trans y3)
  obtain rfl:=zC ((da hl (j:=4) (by decide)).symm.trans y4)
  obtain rfl:=zC ((da hl (j:=5) (by decide)).symm.trans y5)
  have e2:((l[i]?).map eK).getD false=eK l[i]:=by rw[hl];rfl
  simp only[e1,e2,ya,Bool.false_bne]
  show Calls Tryz.prog 90 #[.agg (Fd.cs l[i]).toArray] w _
  refine (FO (hM.up hb hM.1) l[i] (iL _ (List.getElem_mem fY))).mono ?_
  rintro e w' ⟨rfl,hg⟩
  exact ⟨rfl,fun _ _=>trivial,hg.os,hg.tape,hg.output,hg.size,fun k hk _=>hg.block k hk⟩
 have:=KQ hv (fun vs w=>by kernel_rfl) hS (fun _ e=>by cases e) (Bl l) w0 () hw trivial Cf (fun _ e=>by cases e)
 refine this.mono ?_
 rintro e w ⟨rfl,_,hg⟩
 rw[mM (l:=l) (q:=eK) (fun i x hx=>by simp[hx]) rfl]
 exact ⟨rfl,hg.os,hg.tape,hg.output,hg.size,fun k hk=>hg.block k hk (by simp)⟩
def GC:List Fd→Int→Int→Option Int
 |[],_,b=>some b
 |d::r,h,b=>if d.aH≠0∧d.aH≠h then (if d.aH≠b+1 then none else GC r d.aH (b+1)) else GC r d.aH b
def MF (l:List Fd) (n:Int):Bool:=match GC l 0 0 with
 |none=>false
 |some b=>b==n
theorem yy:∀(l:List Fd) (h b:Int) (r:Int),GC l h b=some r→b≤r∧r≤b+l.length
 |[],h,b,r,e=>by obtain rfl:=zC e;simp
 |d::l,h,b,r,e=>by
  unfold GC at e
  rw[List.length_cons]
  split at e
  ·split at e
   ·cases e
   ·have:=yy l _ _ _ e;omega
  ·have:=yy l _ _ _ e;omega
theorem I1 {l:List Fd}{i:Nat}{d:Fd} (h:l[i]?=some d) (hh b:Int):GC (l.drop i) hh b=if d.aH≠0∧d.aH≠hh then (if d.aH≠b+1 then none else GC (l.drop (i+1)) d.aH (b+1)) else GC (l.drop (i+1)) d.aH b:=by
 obtain ⟨hi,rfl⟩:=zB h
 rw[List.drop_eq_getElem_cons hi]
 rfl
theorem yM {W:World}{v:Value}{l:List Fd} (hv:Rl W v l.length (cC l)) (n:Nat) (w0:World) (hw:Below W.heap.size W w0):Calls Tryz.prog 91 #[v,.int .i64 (n:Int)] w0 fun e w=>e=.returned (.bool (MF l n))∧Below w0.heap.size w0 w:=by
 obtain ⟨a,c,rfl,hn,h2⟩:=hv
 have H2:=ak h2
 have HW:=ak hw
 clear h2 hw
 go_enter Tryz.func91,Tryz.ntmps91
 go_wp2
 go_loopg [5,6,8,11] l.length (fun gk v5 v6 _ v11 wr=>∃(i:Nat) (hh b:Int),v5=.int .i64 hh∧v6=.int .i64 b∧v11=.int .i64 (i:Int)∧gk=l.length-i∧i≤l.length∧(0≤b∧b≤(i:Int))∧Hid (Below w0.heap.size w0 wr)∧Hid (GC l 0 0=GC (l.drop i) hh b))
 case atStart=>exact ⟨0,0,0,rfl,rfl,rfl,rfl,by omega,by omega,zE _ _,rfl⟩
 case round =>
  obtain ⟨i,hh,b,rfl,rfl,rfl,bd,hi,hb,HB,HA⟩:=hrel
  have bH:=ak bd
  clear bd
  by_cases aU:i<l.length
  ·obtain ⟨g,o,rfl,hg,hc⟩:=ab H2 (by omega)
   have hl:=List.getElem?_eq_getElem aU
   obtain ⟨d,hd⟩:∃d,l[i]=d:=⟨_,rfl⟩
   rw[hd] at hl
   have HS:=ak ((ab HA).trans (I1 hl hh b))
   have oZ:∀j,j<6→wr.cell? ⟨g,o+(i*6+j),none⟩=d.cs[j]?:=by
    intro j hj
    have e:=da hl hj
    obtain ⟨x,hx⟩:∃x,d.cs[j]?=some x:=⟨_,List.getElem?_eq_getElem (by unfold Fd.cs;exact hj)⟩
    rw[hx] at e ⊢
    have bf:Below W.heap.size W wr:=(ab HW).trans ((ab HB).mono (ab HW).size)
    exact (bf.cell (p:=⟨g,o+(i*6+j),none⟩) hg).trans (hc _ _ e)
   obtain ⟨aZ,key,ty,nm,num,aH⟩:=d
   unfold Fd.cs at oZ
   have x0:=oZ 0 (by decide)
   have x1:=oZ 1 (by decide)
   have x2:=oZ 2 (by decide)
   have x3:=oZ 3 (by decide)
   have x4:=oZ 4 (by decide)
   have x5:=oZ 5 (by decide)
   rw[Nat.add_zero] at x0
   rw[←Nat.add_assoc] at x1 x2 x3 x4 x5
   simp only[List.getElem?_cons_zero,List.getElem?_cons_succ] at x0 x1 x2 x3 x4 x5
   obtain ⟨⟨c0,c1,c2,c3,c4,c5⟩,-,b9⟩:=jH wr aZ num aH key ty nm
   have dF:=ak ((ab HB).trans (b9.mono (ab HB).size))
   have i0:(0:Int)≤(i:Int):=zH _
   have i1:(i:Int)<(l.length:Int):=by omega
   have bn:=ak aU
   have Hbb:=ak hb
   have b0:0≤b:=hb.1
   have b1:b≤140737488355328:=by omega
   clear hc oZ hl hd b9 aU hb HA c0 c1 c2 c3 c4 HB
   simp only at HS
   by_cases h1:aH≠0∧aH≠hh
   ·obtain ⟨ha,hb⟩:=h1
    have ea:(aH != 0)=true:=by simpa using ha
    have eb:(aH != hh)=true:=by simpa using hb
    rw[if_pos ⟨ha,hb⟩] at HS
    by_cases h3:aH=b+1
    ·rw[if_neg (fun k=>k h3)] at HS
     have e3:(aH != b+1)=false:=by simpa using h3
     have Yu:=ak (show 0≤b+1∧b+1≤((i+1:Nat):Int) by have:=ab Hbb;omega)
     clear ha hb h3
     go_wp2
     go_roundg (l.length-(i+1))
     case measure=>have:=ab bH;have:=ab bn;omega
     case rel=>exact ⟨i+1,_,_,rfl,rfl,by go_num,rfl,ab bn,ab Yu,dF,HS⟩
    ·rw[if_pos h3] at HS
     have e3:(aH != b+1)=true:=by simpa using h3
     have HF:=ak (show MF l n=false by unfold MF;rw[ab HS])
     clear ha hb h3
     go_wp2
     go_ret
     rw[ab HF]
     exact ⟨rfl,ab dF⟩
   ·rw[if_neg h1] at HS
    have Yu:=ak (show 0≤b∧b≤((i+1:Nat):Int) by have:=ab Hbb;omega)
    by_cases ha:aH=0
    ·have ea:(aH != 0)=false:=by simpa using ha
     clear h1 ha
     go_wp2
     go_roundg (l.length-(i+1))
     case measure=>have:=ab bH;have:=ab bn;omega
     case rel=>exact ⟨i+1,_,_,rfl,rfl,by go_num,rfl,ab bn,ab Yu,dF,HS⟩
    ·have ea:(aH != 0)=true:=by simpa using ha
     have eb:(aH != hh)=false:=by
      have:¬aH≠hh:=fun k=>h1 ⟨ha,k⟩
      simpa using this
     clear h1 ha
     go_wp2
     go_roundg (l.length-(i+1))
     case measure=>have:=ab bH;have:=ab bn;omega
     case rel=>exact ⟨i+1,_,_,rfl,rfl,by go_num,rfl,ab bn,ab Yu,dF,HS⟩
  ·obtain rfl:i=l.length:=by omega
   have HF:=ak (show MF l n=(b==(n:Int)) by unfold MF;rw[ab HA,List.drop_length];rfl)
   clear HA
   go_wp2
   go_ret
   rw[ab HF]
   exact ⟨rfl,ab HB⟩
end Go.Proofs.YtghioefalckgoaaGreatDoor

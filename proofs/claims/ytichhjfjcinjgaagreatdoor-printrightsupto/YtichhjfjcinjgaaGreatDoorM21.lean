import Derived.Test.YtichhjfjcinjgaaGreatDoorYAi
import Derived.Deep.DeepCutAuto
set_option maxHeartbeats 4000000
set_option maxRecDepth 100000
namespace Go.Proofs.YtichhjfjcinjgaaGreatDoor
open Go.RowKit
attribute [local go_sem ↓] Go.wp_at_zero Go.wp_at_succ
theorem qQ:∀f,L4 f
 |0=>by
  intro W w B bb dd ll L n m vf vo vm ve vr vg nm fs os ms es rs gs cm ce h hP hF hd fK DW hn fR hV oq hl
  exact oq.elim
 |f+1=>ya f (qQ f)
theorem EY (W:World):Calls Tryz.prog 43 #[] W fun e w=>∃bb dd ll,(W.heap.size≤bb∧W.heap.size≤dd∧W.heap.size≤ll∧ll≠bb∧ll≠dd)∧e=.returned (.agg #[bZ bb dd,cy ll dd,cq bb])∧Pn W bb bb dd [] 0 w∧w.heap[ll]?=some (.cells #[bZ bb dd] 85 (0,0)):=by
 refine (Ce W).mono ?_
 rintro e w ⟨rfl,h1,h2⟩
 exact ⟨_,_,_,⟨by omega,by omega,by omega,by omega,by omega⟩,rfl,h1,h2⟩
def js:ByteArray:=⟨#[115,121,110,116,97,120,32,61,32,34,112,114,111,116,111,51,34,59]⟩
def kN:ByteArray:=⟨#[112,97,99,107,97,103,101,32]⟩
def lC:ByteArray:=⟨#[105,109,112,111,114,116,32]⟩
noncomputable def ez (s:ByteArray):List Nat:=aY 0 [lC,bA s,bC]
def lY (p:ByteArray):List Nat:=if p.toList.isEmpty then [] else aY 0 [kN,p,bC]
noncomputable def fG (F:Fl):List Nat:=aY 0 [js]++lY F.jr++F.cX.flatMap ez++pW 32 0 F.ms F.es
theorem zv {W:World}{v vi vm ve:Value}{F:Fl}{cm ce:List Value} (hP:il W) (hF:ir W) (qW:xE W v F vi vm ve cm ce) (TR:F.cX.length≤4096) (eV:∀s ∈ F.cX,s.size≤1048576) (ID:∀m ∈ F.ms,Kh 32 m) (MC:∀e ∈ F.es,JD e) (hl:(fG F).length≤1099511627776) (ey:ns (fG F)) :
  Calls Tryz.prog 20 #[v] W fun e w=>e=.returned (.string (gE (fG F)))∧Below W.heap.size W w:=by
 obtain ⟨rfl,Ry,Bv,eo,Bw,fA⟩:=qW
 have bG:Below W.heap.size W (W.alloc (.cells #[.string F.jr,vi,vm,ve] 26)):=(zE _ _).alloc (zD _) _
 have k0:=aJ W (.cells #[.string F.jr,vi,vm,ve] 26)
 obtain ⟨V,hV⟩:∃V,W.alloc (.cells #[.string F.jr,vi,vm,ve] 26)=V:=⟨_,rfl⟩
 rw[hV] at bG k0
 have PA:=al (fun (bb dd ll:Nat) (w:World) (B:Nat) (L:List Nat) (h:Pn V B bb dd L 0 w) hd fK DW fR N5=>xd 32 (qQ 32) (ll:=ll) (n:=0) h (hP.up bG) (hF.up bG) hd fK DW (by decide) fR (Bv.up bG) (eo.up bG) (Bw.up bG) (fA.up bG) ID MC N5)
 have HvI:=al (Ry.up bG)
 have HF:=al (hF.up bG)
 have Gj:=al bG
 have JY:=al k0
 have Oj:V.heap.size=W.heap.size+1:=by rw[←hV,zJ]
 obtain ⟨ai,ci,rfl,RU,V8⟩:=Ry
 obtain ⟨am,dk,rfl,IC,V6⟩:=Bv
 obtain ⟨ae,dc,rfl,iP,Wa⟩:=Bw
 have HN:=al (EY V)
 have Hi1:=al TR
 have Hi2:=al eV
 have Hl:=al hl
 have S':=al ey
 have Ph:=al Oj
 clear hP hF eo fA TR eV ID MC hl ey bG k0 V8 V6 Wa Oj
 go_enter Tryz.func20,Tryz.ntmps20
 go_wp2_with fail
 refine (ab HN).mono ?_
 rintro e' w1 ⟨bb,dd,ll,⟨eA,P',hl3,fK,DW⟩,rfl,pY,N4⟩
 have aX:Below w1.heap.size w1 (w1.alloc (.cells #[bZ bb dd,cy ll dd,cq bb] 89)):=(zE _ _).alloc (zD _) _
 have k1:=aJ w1 (.cells #[bZ bb dd,cy ll dd,cq bb] 89)
 obtain ⟨X,hX⟩:∃X,w1.alloc (.cells #[bZ bb dd,cy ll dd,cq bb] 89)=X:=⟨_,rfl⟩
 rw[hX] at aX k1
 have vK:=al (pY.below aX)
 have Us:=al ((aX.block _ (zA N4).1).trans N4)
 have iO:=al k1
 have HkF:=al (show X.heap[W.heap.size]?=_ from (Kp.below aX _ _ _ _ (show W.heap.size≠bb by have:=ab Ph;omega) ((pY.bU.block _ (by have:=ab Ph;omega)).trans (ab JY)) (by decide)))
 have pC:=al (show w1.heap.size≠bb by have:=pY.bi.lt.2;omega)
 have Hfb:=al (show W.heap.size≠bb by have:=ab Ph;omega)
 have p0:X.cell? ⟨w1.heap.size,0,none⟩=some (bZ bb dd):=cell_of_row _ _ _ _ _ _ k1
 have hlen:(fG F).length=(aY 0 [js]).length+(lY F.jr).length+(F.cX.flatMap ez).length+(pW 32 0 F.ms F.es).length:=by unfold fG;simp only[zK]
 have qw:=al hlen
 have MU:Hid (∀w,Kp bb X w→w.heap[w1.heap.size]?=some (.cells #[bZ bb dd,cy ll dd,cq bb] 89 (0,0))∧w.heap[W.heap.size]?=some (.cells #[.string F.jr,.slice ai F.cX.length ci,.slice am F.ms.length dk,.slice ae F.es.length dc] 26 (0,0))∧w.heap[ll]?=some (.cells #[bZ bb dd] 85 (0,0))) :=
  fun w hk=>⟨hk _ _ _ _ (ab pC) (ab iO) (by decide),hk _ _ _ _ (ab Hfb) (ab HkF) (by decide),hk _ _ _ _ fK (ab Us) (by decide)⟩
 unfold bZ cy cq at hX
 unfold bZ at p0
 unfold bZ cy cq
 clear pY N4 aX k1 HN hV hlen Us iO HkF
 go_wp2_with fail
 have bd:Below X.heap.size X (X.alloc (.cells (cc [js]).toArray 9)):=(zE _ _).alloc (zD _) _
 refine (iG ((ab vK).below bd) (my (ps:=[js]) (c:=1) rfl (ab vK).bi.lt.2) (by have:=ab Hl;have:=ab qw;simp only[List.length_nil];omega) (by decide)).mono ?_
 rintro e' w2 ⟨rfl,y9,lZ⟩
 rw[List.nil_append] at y9
 have lZ:Kp bb X w2:=(Kp.below bd).trans lZ
 obtain ⟨e1,e2,e3⟩:=ab MU w2 lZ
 have fH:=al y9
 have fI:=al lZ
 have f0:w2.cell? ⟨W.heap.size,0,none⟩=some (.string F.jr):=cell_of_row _ _ _ _ _ _ e2
 have q0:w2.cell? ⟨w1.heap.size,0,none⟩=some (bZ bb dd):=cell_of_row _ _ _ _ _ _ e1
 unfold bZ at q0
 clear y9 lZ bd p0 vK hX e1 e2 e3
 go_upto_if 13 with fail
 go_cut [13] (fun _ wx=>Hid (Pn V bb bb dd (aY 0 [js]++lY F.jr) 0 wx)∧Hid (Kp bb X wx))
 case first =>
  cases WI:F.jr.toList.isEmpty with
  |true =>
   go_wp2_with fail
   go_meet
   refine ⟨?_,fI⟩
   unfold lY
   rw[if_pos WI,List.append_nil]
   exact fH
  |false =>
   go_wp2_with fail
   have bd:Below w2.heap.size w2 (w2.alloc (.cells (cc [kN,F.jr,bC]).toArray 9)):=(zE _ _).alloc (zD _) _
   refine (iG ((ab fH).below bd) (my (ps:=[kN,F.jr,bC]) (c:=3) rfl (ab fH).bi.lt.2) (by have:=ab Hl;have qS:=ab qw;unfold lY at qS;rw[if_neg (by rw[WI];decide)] at qS;omega) (by simp)).mono ?_
   rintro e' w3 ⟨rfl,qR,sU⟩
   have pD:=al qR
   have na:=al ((ab fI).trans ((Kp.below bd).trans sU))
   clear qR sU bd
   go_wp2_with fail
   go_meet
   refine ⟨?_,na⟩
   unfold lY
   rw[if_neg (by rw[WI];decide)]
   exact pD
 case rest =>
  obtain ⟨pD,na⟩:=hcut
  clear f0 q0 fH fI
  have f1:wc.cell? ⟨W.heap.size,1,none⟩=some (.slice ai F.cX.length ci):=cell_of_row _ _ _ _ _ _ (ab MU wc (ab na)).2.1
  go_wp2_with fail
  clear f1
  go_loopg [5,23] F.cX.length (fun gk _ v23 wr=>∃(i:Nat),v23=.int .i64 (i:Int)∧gk=F.cX.length-i∧i≤F.cX.length∧Hid (Pn V bb bb dd (aY 0 [js]++lY F.jr++(F.cX.take i).flatMap ez) 0 wr)∧Hid (Kp bb X wr))
  case atStart=>exact ⟨0,rfl,rfl,by omega,by rw[List.take_zero,List.flatMap_nil,List.append_nil];exact pD,na⟩
  case round =>
   obtain ⟨i,rfl,aW,hi,zg,zj⟩:=hrel
   have bz:=al aW
   clear aW pD na
   by_cases aM:i<F.cX.length
   ·obtain ⟨a2,c2,ZU,-,y8⟩:=ab HvI
    obtain ⟨g,o,hai,hg,hc⟩:=y8 (by omega)
    simp only[Value.slice.injEq] at ZU
    obtain ⟨rfl,-,rfl⟩:=ZU
    subst hai
    have hr:=List.getElem?_eq_getElem aM
    have cJ:=List.getElem_mem aM
    obtain ⟨r,uO⟩:∃r,F.cX[i]=r:=⟨_,rfl⟩
    rw[uO] at hr cJ
    have x0:=((ab zg).bU.cell (p:=⟨g,o+i,none⟩) hg).trans (hc _ _ (show (cc F.cX)[i]?=some (.string r) by unfold cc;rw[List.getElem?_map,hr];rfl))
    have ku:(F.cX.take (i+1)).flatMap ez=(F.cX.take i).flatMap ez++ez r:=by
     obtain ⟨II,rfl⟩:=zB hr
     rw[List.take_succ_eq_append_getElem II,List.flatMap_append]
     simp
    have fR:(aY 0 [js]++lY F.jr++(F.cX.take i).flatMap ez).length+(ez r).length≤1099511627776:=by
     have e2:F.cX.flatMap ez=(F.cX.take (i+1)).flatMap ez++(F.cX.drop (i+1)).flatMap ez:=by rw[←List.flatMap_append,List.take_append_drop]
     have h1:=ab qw
     rw[e2,ku] at h1
     simp only[zK] at h1 ⊢
     have:=ab Hl
     omega
    have Sv:(fun w':World=>w'.cell? ⟨w1.heap.size,0,none⟩=some (.func (.func 80) #[] #[.pointer (some ⟨bb,0,none⟩),.pointer (some ⟨dd,0,none⟩)])) wr:=cell_of_row _ _ _ _ _ _ (ab MU wr (ab zj)).1
    have hT:(fun w':World=>w'.cell? ⟨w1.heap.size,0,none⟩=some (.func (.func 80) #[] #[.pointer (some ⟨bb,0,none⟩),.pointer (some ⟨dd,0,none⟩)])) wr.drew:=Sv
    have i0:(0:Int)≤(i:Int):=zH _
    have i1:(i:Int)<(F.cX.length:Int):=by omega
    have bu:=al aM
    have HQ:=al (fun w' (h:ir w')=>wQ h r (ab Hi2 r cJ))
    have oC:=al fR
    have yR:=al ku
    clear hc hr cJ uO ku fR aM Sv
    go_upto_region 8 with fail
    refine wp_region_any (by kernel_rfl) (bL (z:=99) (T:=fun w'=>w'.cell? ⟨w1.heap.size,0,none⟩=some (.func (.func 80) #[] #[.pointer (some ⟨bb,0,none⟩),.pointer (some ⟨dd,0,none⟩)])) _ _ _ _ ?_)
    try (change cd _ _ _ _ _ _ _ _ _ (World.drew _))
    refine aw 0 (.pointer (some ⟨w1.heap.size,0,none⟩)) 27 rfl rfl (Or.inl ⟨by rfl,fun w' hw=>by go_simp⟩) hT ?_
    simp only[Act.put,zL,zM,zN]
    refine aw 1 (.func (.func 80) #[] #[.pointer (some ⟨bb,0,none⟩),.pointer (some ⟨dd,0,none⟩)]) 28 rfl rfl (Or.inl ⟨by rfl,fun w' hw=>by go_simp⟩) hT ?_
    simp only[Act.put,zL,zM,zN]
    refine aw 2 (.string r) 29 rfl rfl (Or.inl ⟨by rfl,fun w' hw=>by go_simp⟩) hT ?_
    simp only[Act.put,zL,zM,zN]
    refine aF 3 (by kernel_rfl) rfl (fun K hK=>?_)
    refine aO 30 rfl rfl 44 (fun vs=>by kernel_rfl) #[.tmp 29] #[9] rfl #[.string r] (by first|rfl|simp[Act.eval]) (ab HQ wr.drew ((ab HF).up (below_drewN (ab zg).bU 1))) ?_
    rintro e' w3 ⟨rfl,cz⟩
    have cz:Below wr.heap.size wr w3:=⟨cz.os,cz.tape,cz.output,cz.size,cz.block⟩
    have qR:=(ab zg).below cz
    have sU:=(ab zj).trans (Kp.below cz)
    have zd:(fun w':World=>w'.cell? ⟨w1.heap.size,0,none⟩=some (.func (.func 80) #[] #[.pointer (some ⟨bb,0,none⟩),.pointer (some ⟨dd,0,none⟩)])) w3:=cell_of_row _ _ _ _ _ _ (ab MU w3 sU).1
    refine ⟨_,rfl,hK _ _ ⟨fun _=>zd,?_⟩⟩
    clear hK K hT
    simp only[Act.put,zL,zM,zN]
    have ff:Below w3.heap.size w3 (w3.alloc (.cells #[.string lC,.string (bA r),.string bC] 9)):=(zE _ _).alloc (zD _) _
    have BB:(fun w':World=>w'.cell? ⟨w1.heap.size,0,none⟩=some (.func (.func 80) #[] #[.pointer (some ⟨bb,0,none⟩),.pointer (some ⟨dd,0,none⟩)])) (w3.alloc (.cells #[.string lC,.string (bA r),.string bC] 9)):=cell_of_row _ _ _ _ _ _ (ab MU _ (sU.trans (Kp.below ff))).1
    refine aF 4 (by kernel_rfl) rfl (fun K hK=>?_)
    go_simp
    refine hK _ _ ⟨fun _=>BB,?_⟩
    clear hK K
    refine aF 5 (by kernel_rfl) rfl (fun K hK=>?_)
    refine jS 32 28 rfl 80 #[] #[.pointer (some ⟨bb,0,none⟩),.pointer (some ⟨dd,0,none⟩)] (fun vs=>by kernel_rfl) #[.tmp 31] #[22] rfl (by first|rfl|simp[Act.eval]) #[.slice (some ⟨w3.heap.size,0,none⟩) 3 3,.pointer (some ⟨bb,0,none⟩),.pointer (some ⟨dd,0,none⟩)] (by first|rfl|simp[Act.eval]) (iG (qR.below ff) (my (ps:=[lC,bA r,bC]) (c:=3) rfl qR.bi.lt.2) (ab oC) (by simp)) (by rfl) ?_
    rintro e' w5 ⟨rfl,nH,jN⟩
    have jv:Kp bb X w5:=sU.trans ((Kp.below ff).trans jN)
    have ma:=al (show Pn V bb bb dd (aY 0 [js]++lY F.jr++(F.cX.take (i+1)).flatMap ez) 0 w5 by rw[ab yR,←List.append_assoc];exact nH)
    have sH:=al jv
    have uV:(fun w':World=>w'.cell? ⟨w1.heap.size,0,none⟩=some (.func (.func 80) #[] #[.pointer (some ⟨bb,0,none⟩),.pointer (some ⟨dd,0,none⟩)])) w5:=cell_of_row _ _ _ _ _ _ (ab MU _ jv).1
    refine ⟨_,rfl,hK _ _ ⟨fun _=>uV,?_⟩⟩
    clear hK K zd BB uV nH jN jv cz ff qR sU HQ oC yR zg zj
    simp only[Act.put,zL,zM,zN]
    refine a8 (by kernel_rfl) ?_
    go_wp2
    go_roundg (F.cX.length-(i+1))
    case measure=>have:=ab bz;have:=ab bu;omega
    case rel=>exact ⟨i+1,by go_num,rfl,ab bu,ma,sH⟩
   ·obtain rfl:i=F.cX.length:=by omega
    have vH:=ab zg
    rw[List.take_length] at vH
    obtain ⟨e1,e2,e3⟩:=ab MU wr (ab zj)
    have HI:=al (ab PA bb dd ll wr bb _ vH P' fK DW e3 (by have:=ab Hl;have:=ab qw;simp only[zK];omega))
    have f2:wr.cell? ⟨W.heap.size,2,none⟩=some (.slice am F.ms.length dk):=cell_of_row _ _ _ _ _ _ e2
    have f3:wr.cell? ⟨W.heap.size,3,none⟩=some (.slice ae F.es.length dc):=cell_of_row _ _ _ _ _ _ e2
    have q0:wr.cell? ⟨w1.heap.size,0,none⟩=some (bZ bb dd):=cell_of_row _ _ _ _ _ _ e1
    have q1:wr.cell? ⟨w1.heap.size,1,none⟩=some (cy ll dd):=cell_of_row _ _ _ _ _ _ e1
    have q2:wr.cell? ⟨w1.heap.size,2,none⟩=some (cq bb):=cell_of_row _ _ _ _ _ _ e1
    unfold eO bZ cy cq at HI
    unfold bZ at q0
    unfold cy at q1
    unfold cq at q2
    clear vH e1 e2 e3 zg
    go_wp2_with fail
    refine (ab HI).mono ?_
    rintro e' w5 ⟨rfl,nH,jN⟩
    have sH:=al ((ab zj).trans jN)
    have r2:w5.cell? ⟨w1.heap.size,2,none⟩=some (cq bb):=cell_of_row _ _ _ _ _ _ (ab MU w5 (ab sH)).1
    unfold cq at r2
    have HS:=al (Xa (show BI bb bb (fG F) w5 from nH.bi) (ab S') nH.size)
    have ma:=al nH
    clear nH jN HI f2 f3 q0 q1 q2 zj
    go_wp2_with fail
    refine (ab HS).mono ?_
    rintro e' w6 ⟨rfl,pa⟩
    have HE:=al (show Below W.heap.size W w6 from (ab Gj).trans (((ab ma).bU.trans (pa.mono eA)).mono (ab Gj).size))
    clear pa HS ma
    go_wp2
    go_ret
    exact ⟨rfl,ab HE⟩
def gC (lo hi:Int) (r:Int×Int):Bool:=decide (lo≤r.1)&&decide (r.1≤r.2)&&decide (r.2≤hi)
def FQ (g h:Nat) (lo hi:Int) (_:Unit) (w:World):Prop:=w.heap[g]?=some (.cells #[.int .i64 lo] 3 (0,0))∧w.heap[h]?=some (.cells #[.int .i64 hi] 3 (0,0))
theorem Dv (g h:Nat) (lo hi:Int):Kc (FQ g h lo hi):=fun _ _ _ hj hg=>⟨(hg.block _ (zA hj.1).1 (by simp)).trans hj.1,(hg.block _ (zA hj.2).1 (by simp)).trans hj.2⟩
theorem Rd {W:World}{g h:Nat}{lo hi:Int} (hj:FQ g h lo hi () W) (a b:Int):Calls Tryz.prog 120 #[.agg #[.int .i64 a,.int .i64 b],.pointer (some ⟨g,0,none⟩),.pointer (some ⟨h,0,none⟩)] W fun e w=>e=.returned (.bool (gC lo hi (a,b)))∧W.grownBy w none:=by
 have hn:=aJ W (.cells #[.int .i64 a,.int .i64 b] 111)
 have c0:(W.alloc (.cells #[.int .i64 a,.int .i64 b] 111)).cell? ⟨W.heap.size,0,none⟩=some (.int .i64 a):=cell_of_row _ _ _ _ _ _ hn
 have c1:(W.alloc (.cells #[.int .i64 a,.int .i64 b] 111)).cell? ⟨W.heap.size,1,none⟩=some (.int .i64 b):=cell_of_row _ _ _ _ _ _ hn
 have g0:(W.alloc (.cells #[.int .i64 a,.int .i64 b] 111)).cell? ⟨g,0,none⟩=some (.int .i64 lo):=cell_of_row _ _ _ _ _ _ ((Below.heap_alloc _ _ _ (zA hj.1).1).trans hj.1)
 have h0:(W.alloc (.cells #[.int .i64 a,.int .i64 b] 111)).cell? ⟨h,0,none⟩=some (.int .i64 hi):=cell_of_row _ _ _ _ _ _ ((Below.heap_alloc _ _ _ (zA hj.2).1).trans hj.2)
 have HG:=al (World.grownBy_alloc W (.cells #[.int .i64 a,.int .i64 b] 111) none)
 unfold gC
 simp only
 clear hn hj
 obtain ⟨q1,h1⟩:∃q,decide (lo≤a)=q:=⟨_,rfl⟩
 obtain ⟨q2,h2⟩:∃q,decide (a≤b)=q:=⟨_,rfl⟩
 rw[h1,h2]
 cases q1 with
 |false =>
  clear h2
  go_enter Tryz.func120,Tryz.ntmps120
  go_wp2
  go_ret
  exact ⟨rfl,ab HG⟩
 |true =>
  cases q2 with
  |false =>
   go_enter Tryz.func120,Tryz.ntmps120
   go_wp2
   go_ret
   exact ⟨rfl,ab HG⟩
  |true =>
   go_enter Tryz.func120,Tryz.ntmps120
   go_wp2
   go_ret
   exact ⟨rfl,ab HG⟩
theorem xb (W:World) (lo hi:Int):Calls Tryz.prog 74 #[.int .i64 lo,.int .i64 hi] W fun e w=>e=.returned (.func (.func 120) #[] #[.pointer (some ⟨W.heap.size,0,none⟩),.pointer (some ⟨W.heap.size+1,0,none⟩)])∧w=(W.alloc (.cells #[.int .i64 lo] 3)).alloc (.cells #[.int .i64 hi] 3):=by
 go_enter Tryz.func74,Tryz.ntmps74
 go_wp2
 go_ret
 exact ⟨rfl,rfl⟩
theorem Ei {W:World}{v:Value}{l:List (Int×Int)}{g h:Nat}{lo hi:Int} (hv:Rl W v l.length (lj l)) (w0:World) (hw:Below W.heap.size W w0) (hj:FQ g h lo hi () w0) :
  Calls Tryz.prog 73 #[v,.func (.func 120) #[] #[.pointer (some ⟨g,0,none⟩),.pointer (some ⟨h,0,none⟩)]] w0 fun e w=>e=.returned (.bool (l.all (gC lo hi)))∧Below w0.heap.size w0 w:=by
 have hS:eX false W.heap.size W none (FQ g h lo hi) ⟨120,#[],#[.pointer (some ⟨g,0,none⟩),.pointer (some ⟨h,0,none⟩)]⟩ (lV 2 (lj l)) l.length (fun i=>yes (((l[i]?).map (gC lo hi)).getD false)):=by
  intro i eV s w _ ki
  obtain ⟨a,b,e1,y0,y1⟩:=Fz (DE l) eV
  have hl:=List.getElem?_eq_getElem eV
  have z0:=(gI hl (j:=0) (by decide)).symm.trans y0
  have z1:=(gI hl (j:=1) (by decide)).symm.trans y1
  obtain rfl:=zC z0
  obtain rfl:=zC z1
  have e2:((l[i]?).map (gC lo hi)).getD false=gC lo hi l[i]:=by rw[hl];rfl
  simp only[e1,e2,xF,Bool.false_bne]
  show Calls Tryz.prog 120 #[.agg #[.int .i64 l[i].1,.int .i64 l[i].2],.pointer (some ⟨g,0,none⟩),.pointer (some ⟨h,0,none⟩)] w _
  refine (Rd ki l[i].1 l[i].2).mono ?_
  rintro e w' ⟨rfl,hg⟩
  exact ⟨rfl,fun _ _=>Dv g h lo hi _ _ _ ki hg,hg⟩
 have:=Jv hv (fun vs w=>by kernel_rfl) hS (fun _ e=>by cases e) (DE l) w0 () hw hj (Dv g h lo hi) (fun _ e=>by cases e)
 refine this.mono ?_
 rintro e w ⟨rfl,_,hg⟩
 rw[mY (l:=l) (q:=gC lo hi) (fun i x hx=>by simp[hx]) rfl]
 exact ⟨rfl,hg.os,hg.tape,hg.output,hg.size,fun k hk=>hg.block k hk (by simp)⟩
noncomputable def eD (v:ByteArray×Int):Bool:=bD v.1&&!(v.1.toList==eY.toList)&&!(v.1.toList==dx.toList)&&(decide (-2147483648≤v.2)&&decide (v.2≤2147483647))
theorem Ey (W:World) (s:ByteArray) (n:Int):Calls Tryz.prog 79 #[.agg #[.string s,.int .i64 n]] W fun e w=>e=.returned (.bool (eD (s,n)))∧W.grownBy w none:=by
 have hn:=aJ W (.cells #[.string s,.int .i64 n] 74)
 have c0:(W.alloc (.cells #[.string s,.int .i64 n] 74)).cell? ⟨W.heap.size,0,none⟩=some (.string s):=cell_of_row _ _ _ _ _ _ hn
 have c1:(W.alloc (.cells #[.string s,.int .i64 n] 74)).cell? ⟨W.heap.size,1,none⟩=some (.int .i64 n):=cell_of_row _ _ _ _ _ _ hn
 have HG:=al (World.grownBy_alloc W (.cells #[.string s,.int .i64 n] 74) none)
 have HW:=al (fun w=>iz w s)
 have HN:=al (fun w=>nV w n (-2147483648) 2147483647)
 unfold eD
 simp only
 obtain ⟨q1,h1⟩:∃q,bD s=q:=⟨_,rfl⟩
 obtain ⟨q2,h2⟩:∃q,(s.toList==[111,112,116,105,111,110])=q:=⟨_,rfl⟩
 obtain ⟨q3,h3⟩:∃q,(s.toList==[114,101,115,101,114,118,101,100])=q:=⟨_,rfl⟩
 obtain ⟨q4,h4⟩:∃q,(decide (-2147483648≤n)&&decide (n≤2147483647))=q:=⟨_,rfl⟩
 have e2:(s.toList==eY.toList)=q2:=by rw[←h2,toList_data eY];rfl
 have e3:(s.toList==dx.toList)=q3:=by rw[←h3,toList_data dx];rfl
 rw[h1] at HW ⊢
 rw[h4] at HN ⊢
 rw[e2,e3]
 clear h1 h4 e2 e3 hn
 go_enter Tryz.func79,Tryz.ntmps79
 go_wp2_with fail
 refine (ab HW _).mono ?_
 rintro e w ⟨rfl,rfl⟩
 cases q1 with
 |false =>
  go_wp2
  go_ret
  exact ⟨rfl,ab HG⟩
 |true =>
 cases q2 with
 |true =>
  go_wp2
  go_ret
  exact ⟨rfl,ab HG⟩
 |false =>
 cases q3 with
 |true =>
  go_wp2
  go_ret
  exact ⟨rfl,ab HG⟩
 |false =>
 go_wp2_with fail
 refine (ab HN _).mono ?_
 rintro e w' ⟨rfl,rfl⟩
 go_wp2
 go_ret
 exact ⟨rfl,ab HG⟩
theorem LV {W:World}{v:Value}{l:List (ByteArray×Int)} (hv:Rl W v l.length (rn l)) (w0:World) (hw:Below W.heap.size W w0) :
  Calls Tryz.prog 78 #[v,.func (.func 79) #[] #[]] w0 fun e w=>e=.returned (.bool (l.all eD))∧Below w0.heap.size w0 w:=by
 have hS:eX false W.heap.size W none Ug ⟨79,#[],#[]⟩ (lV 2 (rn l)) l.length (fun i=>yes (((l[i]?).map eD).getD false)):=by
  intro i eV s w _ _
  obtain ⟨a,b,e1,y0,y1⟩:=Fz (Ea l) eV
  have hl:=List.getElem?_eq_getElem eV
  have z0:=(fL hl (j:=0) (by decide)).symm.trans y0
  have z1:=(fL hl (j:=1) (by decide)).symm.trans y1
  obtain rfl:=zC z0
  obtain rfl:=zC z1
  have e2:((l[i]?).map eD).getD false=eD l[i]:=by rw[hl];rfl
  simp only[e1,e2,xF,Bool.false_bne]
  show Calls Tryz.prog 79 #[.agg #[.string l[i].1,.int .i64 l[i].2]] w _
  refine (Ey w l[i].1 l[i].2).mono ?_
  rintro e w' ⟨rfl,hg⟩
  exact ⟨rfl,fun _ _=>trivial,hg⟩
 have:=Jt hv (fun vs w=>by kernel_rfl) hS (fun _ e=>by cases e) (Ea l) w0 () hw trivial BS (fun _ e=>by cases e)
 refine this.mono ?_
 rintro e w ⟨rfl,_,hg⟩
 rw[mY (l:=l) (q:=eD) (fun i x hx=>by simp[hx]) rfl]
 exact ⟨rfl,hg.os,hg.tape,hg.output,hg.size,fun k hk=>hg.block k hk (by simp)⟩
theorem LX {W:World} (hM:gX W) {v:Value}{l:List Fd} (hv:Rl W v l.length (fB l)) (kI:∀d ∈ l,d.ty.size≤281474976710656) (w0:World) (hw:Below W.heap.size W w0) :
  Calls Tryz.prog 70 #[v,.func (.func 71) #[] #[]] w0 fun e w=>e=.returned (.bool (l.all cL))∧Below w0.heap.size w0 w:=by
 have hS:eX false W.heap.size W none Ug ⟨71,#[],#[]⟩ (lV 6 (fB l)) l.length (fun i=>yes (((l[i]?).map cL).getD false)):=by
  intro i eV s w hb _
  obtain ⟨a0,a1,a2,a3,a4,a5,e1,y0,y1,y2,y3,y4,y5⟩:=OH (AY l) eV
  have hl:=List.getElem?_eq_getElem eV
  obtain rfl:=zC ((cC hl (j:=0) (by decide)).symm.trans y0)
  obtain rfl:=zC ((cC hl (j:=1) (by decide)).symm.trans y1)
  obtain rfl:=zC ((cC hl (j:=2) (by decide)).symm.trans y2)
  obtain rfl:=zC ((cC hl (j:=3) (by decide)).symm.trans y3)
  obtain rfl:=zC ((cC hl (j:=4) (by decide)).symm.trans y4)
  obtain rfl:=zC ((cC hl (j:=5) (by decide)).symm.trans y5)
  have e2:((l[i]?).map cL).getD false=cL l[i]:=by rw[hl];rfl
  simp only[e1,e2,xF,Bool.false_bne]
  show Calls Tryz.prog 71 #[.agg (Fd.cs l[i]).toArray] w _
  refine (Fs (hM.up hb hM.1) l[i] (kI _ (List.getElem_mem eV))).mono ?_
  rintro e w' ⟨rfl,hg⟩
  exact ⟨rfl,fun _ _=>trivial,hg.os,hg.tape,hg.output,hg.size,fun k hk _=>hg.block k hk⟩
 have:=Jw hv (fun vs w=>by kernel_rfl) hS (fun _ e=>by cases e) (AY l) w0 () hw trivial BS (fun _ e=>by cases e)
 refine this.mono ?_
 rintro e w ⟨rfl,_,hg⟩
 rw[mY (l:=l) (q:=cL) (fun i x hx=>by simp[hx]) rfl]
 exact ⟨rfl,hg.os,hg.tape,hg.output,hg.size,fun k hk=>hg.block k hk (by simp)⟩
def wU:List Fd→Int→Int→Option Int
 |[],_,b=>some b
 |d::r,h,b=>if d.aE≠0∧d.aE≠h then (if d.aE≠b+1 then none else wU r d.aE (b+1)) else wU r d.aE b
def Bs (l:List Fd) (n:Int):Bool:=match wU l 0 0 with
 |none=>false
 |some b=>b==n
theorem xY:∀(l:List Fd) (h b:Int) (r:Int),wU l h b=some r→b≤r∧r≤b+l.length
 |[],h,b,r,e=>by obtain rfl:=zC e;simp
 |d::l,h,b,r,e=>by
  unfold wU at e
  rw[List.length_cons]
  split at e
  ·split at e
   ·cases e
   ·have:=xY l _ _ _ e;omega
  ·have:=xY l _ _ _ e;omega
theorem Au {l:List Fd}{i:Nat}{d:Fd} (h:l[i]?=some d) (hh b:Int):wU (l.drop i) hh b=if d.aE≠0∧d.aE≠hh then (if d.aE≠b+1 then none else wU (l.drop (i+1)) d.aE (b+1)) else wU (l.drop (i+1)) d.aE b:=by
 obtain ⟨hi,rfl⟩:=zB h
 rw[List.drop_eq_getElem_cons hi]
 rfl
theorem yk {W:World}{v:Value}{l:List Fd} (hv:Rl W v l.length (fB l)) (n:Nat) (w0:World) (hw:Below W.heap.size W w0):Calls Tryz.prog 72 #[v,.int .i64 (n:Int)] w0 fun e w=>e=.returned (.bool (Bs l n))∧Below w0.heap.size w0 w:=by
 obtain ⟨a,c,rfl,hn,h2⟩:=hv
 have H2:=al h2
 have HW:=al hw
 clear h2 hw
 go_enter Tryz.func72,Tryz.ntmps72
 go_wp2
 go_loopg [5,6,8,11] l.length (fun gk v5 v6 _ v11 wr=>∃(i:Nat) (hh b:Int),v5=.int .i64 hh∧v6=.int .i64 b∧v11=.int .i64 (i:Int)∧gk=l.length-i∧i≤l.length∧(0≤b∧b≤(i:Int))∧Hid (Below w0.heap.size w0 wr)∧Hid (wU l 0 0=wU (l.drop i) hh b))
 case atStart=>exact ⟨0,0,0,rfl,rfl,rfl,rfl,by omega,by omega,zE _ _,rfl⟩
 case round =>
  obtain ⟨i,hh,b,rfl,rfl,rfl,aW,hi,hb,HB,HA⟩:=hrel
  have bz:=al aW
  clear aW
  by_cases aM:i<l.length
  ·obtain ⟨g,o,rfl,hg,hc⟩:=ab H2 (by omega)
   have hl:=List.getElem?_eq_getElem aM
   obtain ⟨d,hd⟩:∃d,l[i]=d:=⟨_,rfl⟩
   rw[hd] at hl
   have HS:=al ((ab HA).trans (Au hl hh b))
   have qT:∀j,j<6→wr.cell? ⟨g,o+(i*6+j),none⟩=d.cs[j]?:=by
    intro j hj
    have e:=cC hl hj
    obtain ⟨x,hx⟩:∃x,d.cs[j]?=some x:=⟨_,List.getElem?_eq_getElem (by unfold Fd.cs;exact hj)⟩
    rw[hx] at e ⊢
    have aT:Below W.heap.size W wr:=(ab HW).trans ((ab HB).mono (ab HW).size)
    exact (aT.cell (p:=⟨g,o+(i*6+j),none⟩) hg).trans (hc _ _ e)
   obtain ⟨aQ,key,ty,nm,num,aE⟩:=d
   unfold Fd.cs at qT
   have x0:=qT 0 (by decide)
   have x1:=qT 1 (by decide)
   have x2:=qT 2 (by decide)
   have x3:=qT 3 (by decide)
   have x4:=qT 4 (by decide)
   have x5:=qT 5 (by decide)
   rw[Nat.add_zero] at x0
   rw[←Nat.add_assoc] at x1 x2 x3 x4 x5
   simp only[List.getElem?_cons_zero,List.getElem?_cons_succ] at x0 x1 x2 x3 x4 x5
   obtain ⟨⟨c0,c1,c2,c3,c4,c5⟩,-,bd⟩:=j9 wr aQ num aE key ty nm
   have cS:=al ((ab HB).trans (bd.mono (ab HB).size))
   have i0:(0:Int)≤(i:Int):=zH _
   have i1:(i:Int)<(l.length:Int):=by omega
   have bu:=al aM
   have Pe:=al hb
   have b0:0≤b:=hb.1
   have b1:b≤140737488355328:=by omega
   clear hc qT hl hd bd aM hb HA c0 c1 c2 c3 c4 HB
   simp only at HS
   by_cases h1:aE≠0∧aE≠hh
   ·obtain ⟨ha,hb⟩:=h1
    have ea:(aE != 0)=true:=by simpa using ha
    have eb:(aE != hh)=true:=by simpa using hb
    rw[if_pos ⟨ha,hb⟩] at HS
    by_cases h3:aE=b+1
    ·rw[if_neg (fun k=>k h3)] at HS
     have e3:(aE != b+1)=false:=by simpa using h3
     have Qx:=al (show 0≤b+1∧b+1≤((i+1:Nat):Int) by have:=ab Pe;omega)
     clear ha hb h3
     go_wp2
     go_roundg (l.length-(i+1))
     case measure=>have:=ab bz;have:=ab bu;omega
     case rel=>exact ⟨i+1,_,_,rfl,rfl,by go_num,rfl,ab bu,ab Qx,cS,HS⟩
    ·rw[if_pos h3] at HS
     have e3:(aE != b+1)=true:=by simpa using h3
     have HF:=al (show Bs l n=false by unfold Bs;rw[ab HS])
     clear ha hb h3
     go_wp2
     go_ret
     rw[ab HF]
     exact ⟨rfl,ab cS⟩
   ·rw[if_neg h1] at HS
    have Qx:=al (show 0≤b∧b≤((i+1:Nat):Int) by have:=ab Pe;omega)
    by_cases ha:aE=0
    ·have ea:(aE != 0)=false:=by simpa using ha
     clear h1 ha
     go_wp2
     go_roundg (l.length-(i+1))
     case measure=>have:=ab bz;have:=ab bu;omega
     case rel=>exact ⟨i+1,_,_,rfl,rfl,by go_num,rfl,ab bu,ab Qx,cS,HS⟩
    ·have ea:(aE != 0)=true:=by simpa using ha
     have eb:(aE != hh)=false:=by
      have:¬aE≠hh:=fun k=>h1 ⟨ha,k⟩
      simpa using this
     clear h1 ha
     go_wp2
     go_roundg (l.length-(i+1))
     case measure=>have:=ab bz;have:=ab bu;omega
     case rel=>exact ⟨i+1,_,_,rfl,rfl,by go_num,rfl,ab bu,ab Qx,cS,HS⟩
  ·obtain rfl:i=l.length:=by omega
   have HF:=al (show Bs l n=(b==(n:Int)) by unfold Bs;rw[ab HA,List.drop_length];rfl)
   clear HA
   go_wp2
   go_ret
   rw[ab HF]
   exact ⟨rfl,ab HB⟩
end Go.Proofs.YtichhjfjcinjgaaGreatDoor

import Derived.Test.YtichhjfjcinjgaaGreatDoorYAi
import Derived.Deep.DeepCutAuto
set_option maxHeartbeats 4000000
set_option maxRecDepth 100000
namespace Go.Proofs.YtichhjfjcinjgaaGreatDoor
open Go.RowKit
attribute [local go_sem ↓] Go.wp_at_zero Go.wp_at_succ
theorem qx:∀f,Ly f
 |0=>by
  intro W w B bb dd ll L n m vf vo vm ve vr vg nm fs os ms es rs gs cm ce h hP hF hd fF Dv hn fM hV nL hl
  exact nL.elim
 |f+1=>xC f (qx f)
theorem Eu (W:World):Calls Tryz.prog 43 #[] W fun e w=>∃bb dd ll,(W.heap.size≤bb∧W.heap.size≤dd∧W.heap.size≤ll∧ll≠bb∧ll≠dd)∧e=.returned (.agg #[bY bb dd,cw ll dd,cl bb])∧Pn W bb bb dd [] 0 w∧w.heap[ll]?=some (.cells #[bY bb dd] 85 (0,0)):=by
 refine (BM W).mono ?_
 rintro e w ⟨rfl,h1,h2⟩
 exact ⟨_,_,_,⟨by omega,by omega,by omega,by omega,by omega⟩,rfl,h1,h2⟩
def jf:ByteArray:=⟨#[115,121,110,116,97,120,32,61,32,34,112,114,111,116,111,51,34,59]⟩
def kv:ByteArray:=⟨#[112,97,99,107,97,103,101,32]⟩
def kY:ByteArray:=⟨#[105,109,112,111,114,116,32]⟩
noncomputable def ew (s:ByteArray):List Nat:=aV 0 [kY,bA s,bC]
def lH (p:ByteArray):List Nat:=if p.toList.isEmpty then [] else aV 0 [kv,p,bC]
noncomputable def fB (F:Fl):List Nat:=aV 0 [jf]++lH F.jL++F.cV.flatMap ew++pF 32 0 F.ms F.es
theorem yL {W:World}{v vi vm ve:Value}{F:Fl}{cm ce:List Value} (hP:iF W) (hF:iG W) (qD:yH W v F vi vm ve cm ce) (Ts:F.cV.length≤4096) (eS:∀s ∈ F.cV,s.size≤1048576) (H5:∀m ∈ F.ms,JH 32 m) (L9:∀e ∈ F.es,I7 e) (hl:(fB F).length≤1099511627776) (eu:mO (fB F)) :
  Calls Tryz.prog 20 #[v] W fun e w=>e=.returned (.string (gr (fB F)))∧Below W.heap.size W w:=by
 obtain ⟨rfl,Q8,A6,et,A7,fv⟩:=qD
 have bG:Below W.heap.size W (W.alloc (.cells #[.string F.jL,vi,vm,ve] 26)):=(zE _ _).alloc (zD _) _
 have k0:=aK W (.cells #[.string F.jL,vi,vm,ve] 26)
 obtain ⟨V,hV⟩:∃V,W.alloc (.cells #[.string F.jL,vi,vm,ve] 26)=V:=⟨_,rfl⟩
 rw[hV] at bG k0
 have O5:=al (fun (bb dd ll:Nat) (w:World) (B:Nat) (L:List Nat) (h:Pn V B bb dd L 0 w) hd fF Dv fM NG=>wE 32 (qx 32) (ll:=ll) (n:=0) h (hP.up bG) (hF.up bG) hd fF Dv (by decide) fM (A6.up bG) (et.up bG) (A7.up bG) (fv.up bG) H5 L9 NG)
 have HvI:=al (Q8.up bG)
 have HF:=al (hF.up bG)
 have FN:=al bG
 have Jq:=al k0
 have NS:V.heap.size=W.heap.size+1:=by rw[←hV,zJ]
 obtain ⟨ai,ci,rfl,Ru,VD⟩:=Q8
 obtain ⟨am,dh,rfl,H4,VA⟩:=A6
 obtain ⟨ae,da,rfl,iI,VE⟩:=A7
 have HN:=al (Eu V)
 have Hi1:=al Ts
 have Hi2:=al eS
 have Hl:=al hl
 have SJ:=al eu
 have OR:=al NS
 clear hP hF et fv Ts eS H5 L9 hl eu bG k0 VD VA VE NS
 go_enter Tryz.func20,Tryz.ntmps20
 go_wp2_with fail
 refine (ab HN).mono ?_
 rintro e' w1 ⟨bb,dd,ll,⟨ey,PI,hl3,fF,Dv⟩,rfl,pH,ND⟩
 have aW:Below w1.heap.size w1 (w1.alloc (.cells #[bY bb dd,cw ll dd,cl bb] 89)):=(zE _ _).alloc (zD _) _
 have k1:=aK w1 (.cells #[bY bb dd,cw ll dd,cl bb] 89)
 obtain ⟨X,hX⟩:∃X,w1.alloc (.cells #[bY bb dd,cw ll dd,cl bb] 89)=X:=⟨_,rfl⟩
 rw[hX] at aW k1
 have vd:=al (pH.below aW)
 have T2:=al ((aW.block _ (zA ND).1).trans ND)
 have iH:=al k1
 have HkF:=al (show X.heap[W.heap.size]?=_ from (Kp.below aW _ _ _ _ (show W.heap.size≠bb by have:=ab OR;omega) ((pH.bW.block _ (by have:=ab OR;omega)).trans (ab Jq)) (by decide)))
 have pa:=al (show w1.heap.size≠bb by have:=pH.bi.lt.2;omega)
 have Hfb:=al (show W.heap.size≠bb by have:=ab OR;omega)
 have p0:X.cell? ⟨w1.heap.size,0,none⟩=some (bY bb dd):=cell_of_row _ _ _ _ _ _ k1
 have hlen:(fB F).length=(aV 0 [jf]).length+(lH F.jL).length+(F.cV.flatMap ew).length+(pF 32 0 F.ms F.es).length:=by unfold fB;simp only[zK]
 have pT:=al hlen
 have Mw:Hid (∀w,Kp bb X w→w.heap[w1.heap.size]?=some (.cells #[bY bb dd,cw ll dd,cl bb] 89 (0,0))∧w.heap[W.heap.size]?=some (.cells #[.string F.jL,.slice ai F.cV.length ci,.slice am F.ms.length dh,.slice ae F.es.length da] 26 (0,0))∧w.heap[ll]?=some (.cells #[bY bb dd] 85 (0,0))) :=
  fun w hk=>⟨hk _ _ _ _ (ab pa) (ab iH) (by decide),hk _ _ _ _ (ab Hfb) (ab HkF) (by decide),hk _ _ _ _ fF (ab T2) (by decide)⟩
 unfold bY cw cl at hX
 unfold bY at p0
 unfold bY cw cl
 clear pH ND aW k1 HN hV hlen T2 iH HkF
 go_wp2_with fail
 have bd:Below X.heap.size X (X.alloc (.cells (bZ [jf]).toArray 9)):=(zE _ _).alloc (zD _) _
 refine (iy ((ab vd).below bd) (l7 (ps:=[jf]) (c:=1) rfl (ab vd).bi.lt.2) (by have:=ab Hl;have:=ab pT;simp only[List.length_nil];omega) (by decide)).mono ?_
 rintro e' w2 ⟨rfl,yy,lI⟩
 rw[List.nil_append] at yy
 have lI:Kp bb X w2:=(Kp.below bd).trans lI
 obtain ⟨e1,e2,e3⟩:=ab Mw w2 lI
 have fC:=al yy
 have fD:=al lI
 have f0:w2.cell? ⟨W.heap.size,0,none⟩=some (.string F.jL):=cell_of_row _ _ _ _ _ _ e2
 have q0:w2.cell? ⟨w1.heap.size,0,none⟩=some (bY bb dd):=cell_of_row _ _ _ _ _ _ e1
 unfold bY at q0
 clear yy lI bd p0 vd hX e1 e2 e3
 go_upto_if 13 with fail
 go_cut [13] (fun _ wx=>Hid (Pn V bb bb dd (aV 0 [jf]++lH F.jL) 0 wx)∧Hid (Kp bb X wx))
 case first =>
  cases Wd:F.jL.toList.isEmpty with
  |true =>
   go_wp2_with fail
   go_meet
   refine ⟨?_,fD⟩
   unfold lH
   rw[if_pos Wd,List.append_nil]
   exact fC
  |false =>
   go_wp2_with fail
   have bd:Below w2.heap.size w2 (w2.alloc (.cells (bZ [kv,F.jL,bC]).toArray 9)):=(zE _ _).alloc (zD _) _
   refine (iy ((ab fC).below bd) (l7 (ps:=[kv,F.jL,bC]) (c:=3) rfl (ab fC).bi.lt.2) (by have:=ab Hl;have qA:=ab pT;unfold lH at qA;rw[if_neg (by rw[Wd];decide)] at qA;omega) (by simp)).mono ?_
   rintro e' w3 ⟨rfl,qy,sx⟩
   have pb:=al qy
   have mK:=al ((ab fD).trans ((Kp.below bd).trans sx))
   clear qy sx bd
   go_wp2_with fail
   go_meet
   refine ⟨?_,mK⟩
   unfold lH
   rw[if_neg (by rw[Wd];decide)]
   exact pb
 case rest =>
  obtain ⟨pb,mK⟩:=hcut
  clear f0 q0 fC fD
  have f1:wc.cell? ⟨W.heap.size,1,none⟩=some (.slice ai F.cV.length ci):=cell_of_row _ _ _ _ _ _ (ab Mw wc (ab mK)).2.1
  go_wp2_with fail
  clear f1
  go_loopg [5,23] F.cV.length (fun gk _ v23 wr=>∃(i:Nat),v23=.int .i64 (i:Int)∧gk=F.cV.length-i∧i≤F.cV.length∧Hid (Pn V bb bb dd (aV 0 [jf]++lH F.jL++(F.cV.take i).flatMap ew) 0 wr)∧Hid (Kp bb X wr))
  case atStart=>exact ⟨0,rfl,rfl,by omega,by rw[List.take_zero,List.flatMap_nil,List.append_nil];exact pb,mK⟩
  case round =>
   obtain ⟨i,rfl,aU,hi,yE,yG⟩:=hrel
   have bz:=al aU
   clear aU pb mK
   by_cases aM:i<F.cV.length
   ·obtain ⟨a2,c2,Zv,-,EG⟩:=ab HvI
    obtain ⟨g,o,hai,hg,hc⟩:=EG (by omega)
    simp only[Value.slice.injEq] at Zv
    obtain ⟨rfl,-,rfl⟩:=Zv
    subst hai
    have hr:=List.getElem?_eq_getElem aM
    have cI:=List.getElem_mem aM
    obtain ⟨r,tW⟩:∃r,F.cV[i]=r:=⟨_,rfl⟩
    rw[tW] at hr cI
    have x0:=((ab yE).bW.cell (p:=⟨g,o+i,none⟩) hg).trans (hc _ _ (show (bZ F.cV)[i]?=some (.string r) by unfold bZ;rw[List.getElem?_map,hr];rfl))
    have j':(F.cV.take (i+1)).flatMap ew=(F.cV.take i).flatMap ew++ew r:=by
     obtain ⟨H',rfl⟩:=zB hr
     rw[List.take_succ_eq_append_getElem H',List.flatMap_append]
     simp
    have fM:(aV 0 [jf]++lH F.jL++(F.cV.take i).flatMap ew).length+(ew r).length≤1099511627776:=by
     have e2:F.cV.flatMap ew=(F.cV.take (i+1)).flatMap ew++(F.cV.drop (i+1)).flatMap ew:=by rw[←List.flatMap_append,List.take_append_drop]
     have h1:=ab pT
     rw[e2,j'] at h1
     simp only[zK] at h1 ⊢
     have:=ab Hl
     omega
    have R4:(fun w':World=>w'.cell? ⟨w1.heap.size,0,none⟩=some (.func (.func 80) #[] #[.pointer (some ⟨bb,0,none⟩),.pointer (some ⟨dd,0,none⟩)])) wr:=cell_of_row _ _ _ _ _ _ (ab Mw wr (ab yG)).1
    have hT:(fun w':World=>w'.cell? ⟨w1.heap.size,0,none⟩=some (.func (.func 80) #[] #[.pointer (some ⟨bb,0,none⟩),.pointer (some ⟨dd,0,none⟩)])) wr.drew:=R4
    have i0:(0:Int)≤(i:Int):=zH _
    have i1:(i:Int)<(F.cV.length:Int):=by omega
    have bu:=al aM
    have HQ:=al (fun w' (h:iG w')=>wb h r (ab Hi2 r cI))
    have nU:=al fM
    have yl:=al j'
    clear hc hr cI tW j' fM aM R4
    go_upto_region 8 with fail
    refine wp_region_any (by kernel_rfl) (bK (z:=99) (T:=fun w'=>w'.cell? ⟨w1.heap.size,0,none⟩=some (.func (.func 80) #[] #[.pointer (some ⟨bb,0,none⟩),.pointer (some ⟨dd,0,none⟩)])) _ _ _ _ ?_)
    try (change cc _ _ _ _ _ _ _ _ _ (World.drew _))
    refine aw 0 (.pointer (some ⟨w1.heap.size,0,none⟩)) 27 rfl rfl (Or.inl ⟨by rfl,fun w' hw=>by go_simp⟩) hT ?_
    simp only[Act.put,zL,zM,zN]
    refine aw 1 (.func (.func 80) #[] #[.pointer (some ⟨bb,0,none⟩),.pointer (some ⟨dd,0,none⟩)]) 28 rfl rfl (Or.inl ⟨by rfl,fun w' hw=>by go_simp⟩) hT ?_
    simp only[Act.put,zL,zM,zN]
    refine aw 2 (.string r) 29 rfl rfl (Or.inl ⟨by rfl,fun w' hw=>by go_simp⟩) hT ?_
    simp only[Act.put,zL,zM,zN]
    refine aF 3 (by kernel_rfl) rfl (fun K hK=>?_)
    refine aO 30 rfl rfl 44 (fun vs=>by kernel_rfl) #[.tmp 29] #[9] rfl #[.string r] (by first|rfl|simp[Act.eval]) (ab HQ wr.drew ((ab HF).up (below_drewN (ab yE).bW 1))) ?_
    rintro e' w3 ⟨rfl,cE⟩
    have cE:Below wr.heap.size wr w3:=⟨cE.os,cE.tape,cE.output,cE.size,cE.block⟩
    have qy:=(ab yE).below cE
    have sx:=(ab yG).trans (Kp.below cE)
    have yB:(fun w':World=>w'.cell? ⟨w1.heap.size,0,none⟩=some (.func (.func 80) #[] #[.pointer (some ⟨bb,0,none⟩),.pointer (some ⟨dd,0,none⟩)])) w3:=cell_of_row _ _ _ _ _ _ (ab Mw w3 sx).1
    refine ⟨_,rfl,hK _ _ ⟨fun _=>yB,?_⟩⟩
    clear hK K hT
    simp only[Act.put,zL,zM,zN]
    have gT:Below w3.heap.size w3 (w3.alloc (.cells #[.string kY,.string (bA r),.string bC] 9)):=(zE _ _).alloc (zD _) _
    have Bb:(fun w':World=>w'.cell? ⟨w1.heap.size,0,none⟩=some (.func (.func 80) #[] #[.pointer (some ⟨bb,0,none⟩),.pointer (some ⟨dd,0,none⟩)])) (w3.alloc (.cells #[.string kY,.string (bA r),.string bC] 9)):=cell_of_row _ _ _ _ _ _ (ab Mw _ (sx.trans (Kp.below gT))).1
    refine aF 4 (by kernel_rfl) rfl (fun K hK=>?_)
    go_simp
    refine hK _ _ ⟨fun _=>Bb,?_⟩
    clear hK K
    refine aF 5 (by kernel_rfl) rfl (fun K hK=>?_)
    refine jF 32 28 rfl 80 #[] #[.pointer (some ⟨bb,0,none⟩),.pointer (some ⟨dd,0,none⟩)] (fun vs=>by kernel_rfl) #[.tmp 31] #[22] rfl (by first|rfl|simp[Act.eval]) #[.slice (some ⟨w3.heap.size,0,none⟩) 3 3,.pointer (some ⟨bb,0,none⟩),.pointer (some ⟨dd,0,none⟩)] (by first|rfl|simp[Act.eval]) (iy (qy.below gT) (l7 (ps:=[kY,bA r,bC]) (c:=3) rfl qy.bi.lt.2) (ab nU) (by simp)) (by rfl) ?_
    rintro e' w5 ⟨rfl,nc,jA⟩
    have jg:Kp bb X w5:=sx.trans ((Kp.below gT).trans jA)
    have lN:=al (show Pn V bb bb dd (aV 0 [jf]++lH F.jL++(F.cV.take (i+1)).flatMap ew) 0 w5 by rw[ab yl,←List.append_assoc];exact nc)
    have sf:=al jg
    have uu:(fun w':World=>w'.cell? ⟨w1.heap.size,0,none⟩=some (.func (.func 80) #[] #[.pointer (some ⟨bb,0,none⟩),.pointer (some ⟨dd,0,none⟩)])) w5:=cell_of_row _ _ _ _ _ _ (ab Mw _ jg).1
    refine ⟨_,rfl,hK _ _ ⟨fun _=>uu,?_⟩⟩
    clear hK K yB Bb uu nc jA jg cE gT qy sx HQ nU yl yE yG
    simp only[Act.put,zL,zM,zN]
    refine aZ (by kernel_rfl) ?_
    go_wp2
    go_roundg (F.cV.length-(i+1))
    case measure=>have:=ab bz;have:=ab bu;omega
    case rel=>exact ⟨i+1,by go_num,rfl,ab bu,lN,sf⟩
   ·obtain rfl:i=F.cV.length:=by omega
    have uZ:=ab yE
    rw[List.take_length] at uZ
    obtain ⟨e1,e2,e3⟩:=ab Mw wr (ab yG)
    have HI:=al (ab O5 bb dd ll wr bb _ uZ PI fF Dv e3 (by have:=ab Hl;have:=ab pT;simp only[zK];omega))
    have f2:wr.cell? ⟨W.heap.size,2,none⟩=some (.slice am F.ms.length dh):=cell_of_row _ _ _ _ _ _ e2
    have f3:wr.cell? ⟨W.heap.size,3,none⟩=some (.slice ae F.es.length da):=cell_of_row _ _ _ _ _ _ e2
    have q0:wr.cell? ⟨w1.heap.size,0,none⟩=some (bY bb dd):=cell_of_row _ _ _ _ _ _ e1
    have q1:wr.cell? ⟨w1.heap.size,1,none⟩=some (cw ll dd):=cell_of_row _ _ _ _ _ _ e1
    have q2:wr.cell? ⟨w1.heap.size,2,none⟩=some (cl bb):=cell_of_row _ _ _ _ _ _ e1
    unfold eM bY cw cl at HI
    unfold bY at q0
    unfold cw at q1
    unfold cl at q2
    clear uZ e1 e2 e3 yE
    go_wp2_with fail
    refine (ab HI).mono ?_
    rintro e' w5 ⟨rfl,nc,jA⟩
    have sf:=al ((ab yG).trans jA)
    have r2:w5.cell? ⟨w1.heap.size,2,none⟩=some (cl bb):=cell_of_row _ _ _ _ _ _ (ab Mw w5 (ab sf)).1
    unfold cl at r2
    have HS:=al (WD (show BI bb bb (fB F) w5 from nc.bi) (ab SJ) nc.size)
    have lN:=al nc
    clear nc jA HI f2 f3 q0 q1 q2 yG
    go_wp2_with fail
    refine (ab HS).mono ?_
    rintro e' w6 ⟨rfl,oL⟩
    have HE:=al (show Below W.heap.size W w6 from (ab FN).trans (((ab lN).bW.trans (oL.mono ey)).mono (ab FN).size))
    clear oL HS lN
    go_wp2
    go_ret
    exact ⟨rfl,ab HE⟩
def gf (lo hi:Int) (r:Int×Int):Bool:=decide (lo≤r.1)&&decide (r.1≤r.2)&&decide (r.2≤hi)
def Fi (g h:Nat) (lo hi:Int) (_:Unit) (w:World):Prop:=w.heap[g]?=some (.cells #[.int .i64 lo] 3 (0,0))∧w.heap[h]?=some (.cells #[.int .i64 hi] 3 (0,0))
theorem C5 (g h:Nat) (lo hi:Int):JE (Fi g h lo hi):=fun _ _ _ hj hg=>⟨(hg.block _ (zA hj.1).1 (by simp)).trans hj.1,(hg.block _ (zA hj.2).1 (by simp)).trans hj.2⟩
theorem QN {W:World}{g h:Nat}{lo hi:Int} (hj:Fi g h lo hi () W) (a b:Int):Calls Tryz.prog 120 #[.agg #[.int .i64 a,.int .i64 b],.pointer (some ⟨g,0,none⟩),.pointer (some ⟨h,0,none⟩)] W fun e w=>e=.returned (.bool (gf lo hi (a,b)))∧W.grownBy w none:=by
 have hn:=aK W (.cells #[.int .i64 a,.int .i64 b] 111)
 have c0:(W.alloc (.cells #[.int .i64 a,.int .i64 b] 111)).cell? ⟨W.heap.size,0,none⟩=some (.int .i64 a):=cell_of_row _ _ _ _ _ _ hn
 have c1:(W.alloc (.cells #[.int .i64 a,.int .i64 b] 111)).cell? ⟨W.heap.size,1,none⟩=some (.int .i64 b):=cell_of_row _ _ _ _ _ _ hn
 have g0:(W.alloc (.cells #[.int .i64 a,.int .i64 b] 111)).cell? ⟨g,0,none⟩=some (.int .i64 lo):=cell_of_row _ _ _ _ _ _ ((Below.heap_alloc _ _ _ (zA hj.1).1).trans hj.1)
 have h0:(W.alloc (.cells #[.int .i64 a,.int .i64 b] 111)).cell? ⟨h,0,none⟩=some (.int .i64 hi):=cell_of_row _ _ _ _ _ _ ((Below.heap_alloc _ _ _ (zA hj.2).1).trans hj.2)
 have HG:=al (World.grownBy_alloc W (.cells #[.int .i64 a,.int .i64 b] 111) none)
 unfold gf
 simp only
 clear hn hj
 obtain ⟨q1,h1⟩:∃q,decide (lo≤a)=q:=⟨_,rfl⟩
 obtain ⟨q2,h2⟩:∃q,decide (a≤b)=q:=⟨_,rfl⟩
 rw[h1,h2]
 cases q1 with
 |false =>
  clear h2
  go_enter Tryz.func120,Tryz.ntmps120
  go_wp2
  go_ret
  exact ⟨rfl,ab HG⟩
 |true =>
  cases q2 with
  |false =>
   go_enter Tryz.func120,Tryz.ntmps120
   go_wp2
   go_ret
   exact ⟨rfl,ab HG⟩
  |true =>
   go_enter Tryz.func120,Tryz.ntmps120
   go_wp2
   go_ret
   exact ⟨rfl,ab HG⟩
theorem wC (W:World) (lo hi:Int):Calls Tryz.prog 74 #[.int .i64 lo,.int .i64 hi] W fun e w=>e=.returned (.func (.func 120) #[] #[.pointer (some ⟨W.heap.size,0,none⟩),.pointer (some ⟨W.heap.size+1,0,none⟩)])∧w=(W.alloc (.cells #[.int .i64 lo] 3)).alloc (.cells #[.int .i64 hi] 3):=by
 go_enter Tryz.func74,Tryz.ntmps74
 go_wp2
 go_ret
 exact ⟨rfl,rfl⟩
theorem DP {W:World}{v:Value}{l:List (Int×Int)}{g h:Nat}{lo hi:Int} (hv:Rl W v l.length (kQ l)) (w0:World) (hw:Below W.heap.size W w0) (hj:Fi g h lo hi () w0) :
  Calls Tryz.prog 73 #[v,.func (.func 120) #[] #[.pointer (some ⟨g,0,none⟩),.pointer (some ⟨h,0,none⟩)]] w0 fun e w=>e=.returned (.bool (l.all (gf lo hi)))∧Below w0.heap.size w0 w:=by
 have hS:eU false W.heap.size W none (Fi g h lo hi) ⟨120,#[],#[.pointer (some ⟨g,0,none⟩),.pointer (some ⟨h,0,none⟩)]⟩ (lE 2 (kQ l)) l.length (fun i=>yes (((l[i]?).map (gf lo hi)).getD false)):=by
  intro i eS s w _ j3
  obtain ⟨a,b,e1,y0,y1⟩:=E1 (Dd l) eS
  have hl:=List.getElem?_eq_getElem eS
  have z0:=(gB hl (j:=0) (by decide)).symm.trans y0
  have z1:=(gB hl (j:=1) (by decide)).symm.trans y1
  obtain rfl:=zC z0
  obtain rfl:=zC z1
  have e2:((l[i]?).map (gf lo hi)).getD false=gf lo hi l[i]:=by rw[hl];rfl
  simp only[e1,e2,wZ,Bool.false_bne]
  show Calls Tryz.prog 120 #[.agg #[.int .i64 l[i].1,.int .i64 l[i].2],.pointer (some ⟨g,0,none⟩),.pointer (some ⟨h,0,none⟩)] w _
  refine (QN j3 l[i].1 l[i].2).mono ?_
  rintro e w' ⟨rfl,hg⟩
  exact ⟨rfl,fun _ _=>C5 g h lo hi _ _ _ j3 hg,hg⟩
 have:=I0 hv (fun vs w=>by kernel_rfl) hS (fun _ e=>by cases e) (Dd l) w0 () hw hj (C5 g h lo hi) (fun _ e=>by cases e)
 refine this.mono ?_
 rintro e w ⟨rfl,_,hg⟩
 rw[mI (l:=l) (q:=gf lo hi) (fun i x hx=>by simp[hx]) rfl]
 exact ⟨rfl,hg.os,hg.tape,hg.output,hg.size,fun k hk=>hg.block k hk (by simp)⟩
noncomputable def eB (v:ByteArray×Int):Bool:=bD v.1&&!(v.1.toList==eV.toList)&&!(v.1.toList==dv.toList)&&(decide (-2147483648≤v.2)&&decide (v.2≤2147483647))
theorem D3 (W:World) (s:ByteArray) (n:Int):Calls Tryz.prog 79 #[.agg #[.string s,.int .i64 n]] W fun e w=>e=.returned (.bool (eB (s,n)))∧W.grownBy w none:=by
 have hn:=aK W (.cells #[.string s,.int .i64 n] 74)
 have c0:(W.alloc (.cells #[.string s,.int .i64 n] 74)).cell? ⟨W.heap.size,0,none⟩=some (.string s):=cell_of_row _ _ _ _ _ _ hn
 have c1:(W.alloc (.cells #[.string s,.int .i64 n] 74)).cell? ⟨W.heap.size,1,none⟩=some (.int .i64 n):=cell_of_row _ _ _ _ _ _ hn
 have HG:=al (World.grownBy_alloc W (.cells #[.string s,.int .i64 n] 74) none)
 have HW:=al (fun w=>ij w s)
 have HN:=al (fun w=>ny w n (-2147483648) 2147483647)
 unfold eB
 simp only
 obtain ⟨q1,h1⟩:∃q,bD s=q:=⟨_,rfl⟩
 obtain ⟨q2,h2⟩:∃q,(s.toList==[111,112,116,105,111,110])=q:=⟨_,rfl⟩
 obtain ⟨q3,h3⟩:∃q,(s.toList==[114,101,115,101,114,118,101,100])=q:=⟨_,rfl⟩
 obtain ⟨q4,h4⟩:∃q,(decide (-2147483648≤n)&&decide (n≤2147483647))=q:=⟨_,rfl⟩
 have e2:(s.toList==eV.toList)=q2:=by rw[←h2,toList_data eV];rfl
 have e3:(s.toList==dv.toList)=q3:=by rw[←h3,toList_data dv];rfl
 rw[h1] at HW ⊢
 rw[h4] at HN ⊢
 rw[e2,e3]
 clear h1 h4 e2 e3 hn
 go_enter Tryz.func79,Tryz.ntmps79
 go_wp2_with fail
 refine (ab HW _).mono ?_
 rintro e w ⟨rfl,rfl⟩
 cases q1 with
 |false =>
  go_wp2
  go_ret
  exact ⟨rfl,ab HG⟩
 |true =>
 cases q2 with
 |true =>
  go_wp2
  go_ret
  exact ⟨rfl,ab HG⟩
 |false =>
 cases q3 with
 |true =>
  go_wp2
  go_ret
  exact ⟨rfl,ab HG⟩
 |false =>
 go_wp2_with fail
 refine (ab HN _).mono ?_
 rintro e w' ⟨rfl,rfl⟩
 go_wp2
 go_ret
 exact ⟨rfl,ab HG⟩
theorem Lq {W:World}{v:Value}{l:List (ByteArray×Int)} (hv:Rl W v l.length (qP l)) (w0:World) (hw:Below W.heap.size W w0) :
  Calls Tryz.prog 78 #[v,.func (.func 79) #[] #[]] w0 fun e w=>e=.returned (.bool (l.all eB))∧Below w0.heap.size w0 w:=by
 have hS:eU false W.heap.size W none TR ⟨79,#[],#[]⟩ (lE 2 (qP l)) l.length (fun i=>yes (((l[i]?).map eB).getD false)):=by
  intro i eS s w _ _
  obtain ⟨a,b,e1,y0,y1⟩:=E1 (DH l) eS
  have hl:=List.getElem?_eq_getElem eS
  have z0:=(fG hl (j:=0) (by decide)).symm.trans y0
  have z1:=(fG hl (j:=1) (by decide)).symm.trans y1
  obtain rfl:=zC z0
  obtain rfl:=zC z1
  have e2:((l[i]?).map eB).getD false=eB l[i]:=by rw[hl];rfl
  simp only[e1,e2,wZ,Bool.false_bne]
  show Calls Tryz.prog 79 #[.agg #[.string l[i].1,.int .i64 l[i].2]] w _
  refine (D3 w l[i].1 l[i].2).mono ?_
  rintro e w' ⟨rfl,hg⟩
  exact ⟨rfl,fun _ _=>trivial,hg⟩
 have:=IY hv (fun vs w=>by kernel_rfl) hS (fun _ e=>by cases e) (DH l) w0 () hw trivial Br (fun _ e=>by cases e)
 refine this.mono ?_
 rintro e w ⟨rfl,_,hg⟩
 rw[mI (l:=l) (q:=eB) (fun i x hx=>by simp[hx]) rfl]
 exact ⟨rfl,hg.os,hg.tape,hg.output,hg.size,fun k hk=>hg.block k hk (by simp)⟩
theorem Ls {W:World} (hM:ia W) {v:Value}{l:List Fd} (hv:Rl W v l.length (fw l)) (kI:∀d ∈ l,d.ty.size≤281474976710656) (w0:World) (hw:Below W.heap.size W w0) :
  Calls Tryz.prog 70 #[v,.func (.func 71) #[] #[]] w0 fun e w=>e=.returned (.bool (l.all cK))∧Below w0.heap.size w0 w:=by
 have hS:eU false W.heap.size W none TR ⟨71,#[],#[]⟩ (lE 6 (fw l)) l.length (fun i=>yes (((l[i]?).map cK).getD false)):=by
  intro i eS s w hb _
  obtain ⟨a0,a1,a2,a3,a4,a5,e1,y0,y1,y2,y3,y4,y5⟩:=Od (Ay l) eS
  have hl:=List.getElem?_eq_getElem eS
  obtain rfl:=zC ((cA hl (j:=0) (by decide)).symm.trans y0)
  obtain rfl:=zC ((cA hl (j:=1) (by decide)).symm.trans y1)
  obtain rfl:=zC ((cA hl (j:=2) (by decide)).symm.trans y2)
  obtain rfl:=zC ((cA hl (j:=3) (by decide)).symm.trans y3)
  obtain rfl:=zC ((cA hl (j:=4) (by decide)).symm.trans y4)
  obtain rfl:=zC ((cA hl (j:=5) (by decide)).symm.trans y5)
  have e2:((l[i]?).map cK).getD false=cK l[i]:=by rw[hl];rfl
  simp only[e1,e2,wZ,Bool.false_bne]
  show Calls Tryz.prog 71 #[.agg (Fd.cs l[i]).toArray] w _
  refine (EY (hM.up hb hM.1) l[i] (kI _ (List.getElem_mem eS))).mono ?_
  rintro e w' ⟨rfl,hg⟩
  exact ⟨rfl,fun _ _=>trivial,hg.os,hg.tape,hg.output,hg.size,fun k hk _=>hg.block k hk⟩
 have:=I1 hv (fun vs w=>by kernel_rfl) hS (fun _ e=>by cases e) (Ay l) w0 () hw trivial Br (fun _ e=>by cases e)
 refine this.mono ?_
 rintro e w ⟨rfl,_,hg⟩
 rw[mI (l:=l) (q:=cK) (fun i x hx=>by simp[hx]) rfl]
 exact ⟨rfl,hg.os,hg.tape,hg.output,hg.size,fun k hk=>hg.block k hk (by simp)⟩
def wh:List Fd→Int→Int→Option Int
 |[],_,b=>some b
 |d::r,h,b=>if d.aE≠0∧d.aE≠h then (if d.aE≠b+1 then none else wh r d.aE (b+1)) else wh r d.aE b
def A3 (l:List Fd) (n:Int):Bool:=match wh l 0 0 with
 |none=>false
 |some b=>b==n
theorem xx:∀(l:List Fd) (h b:Int) (r:Int),wh l h b=some r→b≤r∧r≤b+l.length
 |[],h,b,r,e=>by obtain rfl:=zC e;simp
 |d::l,h,b,r,e=>by
  unfold wh at e
  rw[List.length_cons]
  split at e
  ·split at e
   ·cases e
   ·have:=xx l _ _ _ e;omega
  ·have:=xx l _ _ _ e;omega
theorem zT {l:List Fd}{i:Nat}{d:Fd} (h:l[i]?=some d) (hh b:Int):wh (l.drop i) hh b=if d.aE≠0∧d.aE≠hh then (if d.aE≠b+1 then none else wh (l.drop (i+1)) d.aE (b+1)) else wh (l.drop (i+1)) d.aE b:=by
 obtain ⟨hi,rfl⟩:=zB h
 rw[List.drop_eq_getElem_cons hi]
 rfl
theorem xJ {W:World}{v:Value}{l:List Fd} (hv:Rl W v l.length (fw l)) (n:Nat) (w0:World) (hw:Below W.heap.size W w0):Calls Tryz.prog 72 #[v,.int .i64 (n:Int)] w0 fun e w=>e=.returned (.bool (A3 l n))∧Below w0.heap.size w0 w:=by
 obtain ⟨a,c,rfl,hn,h2⟩:=hv
 have H2:=al h2
 have HW:=al hw
 clear h2 hw
 go_enter Tryz.func72,Tryz.ntmps72
 go_wp2
 go_loopg [5,6,8,11] l.length (fun gk v5 v6 _ v11 wr=>∃(i:Nat) (hh b:Int),v5=.int .i64 hh∧v6=.int .i64 b∧v11=.int .i64 (i:Int)∧gk=l.length-i∧i≤l.length∧(0≤b∧b≤(i:Int))∧Hid (Below w0.heap.size w0 wr)∧Hid (wh l 0 0=wh (l.drop i) hh b))
 case atStart=>exact ⟨0,0,0,rfl,rfl,rfl,rfl,by omega,by omega,zE _ _,rfl⟩
 case round =>
  obtain ⟨i,hh,b,rfl,rfl,rfl,aU,hi,hb,HB,HA⟩:=hrel
  have bz:=al aU
  clear aU
  by_cases aM:i<l.length
  ·obtain ⟨g,o,rfl,hg,hc⟩:=ab H2 (by omega)
   have hl:=List.getElem?_eq_getElem aM
   obtain ⟨d,hd⟩:∃d,l[i]=d:=⟨_,rfl⟩
   rw[hd] at hl
   have HS:=al ((ab HA).trans (zT hl hh b))
   have qB:∀j,j<6→wr.cell? ⟨g,o+(i*6+j),none⟩=d.cs[j]?:=by
    intro j hj
    have e:=cA hl hj
    obtain ⟨x,hx⟩:∃x,d.cs[j]?=some x:=⟨_,List.getElem?_eq_getElem (by unfold Fd.cs;exact hj)⟩
    rw[hx] at e ⊢
    have aS:Below W.heap.size W wr:=(ab HW).trans ((ab HB).mono (ab HW).size)
    exact (aS.cell (p:=⟨g,o+(i*6+j),none⟩) hg).trans (hc _ _ e)
   obtain ⟨aP,key,ty,nm,num,aE⟩:=d
   unfold Fd.cs at qB
   have x0:=qB 0 (by decide)
   have x1:=qB 1 (by decide)
   have x2:=qB 2 (by decide)
   have x3:=qB 3 (by decide)
   have x4:=qB 4 (by decide)
   have x5:=qB 5 (by decide)
   rw[Nat.add_zero] at x0
   rw[←Nat.add_assoc] at x1 x2 x3 x4 x5
   simp only[List.getElem?_cons_zero,List.getElem?_cons_succ] at x0 x1 x2 x3 x4 x5
   obtain ⟨⟨c0,c1,c2,c3,c4,c5⟩,-,bd⟩:=jS wr aP num aE key ty nm
   have cR:=al ((ab HB).trans (bd.mono (ab HB).size))
   have i0:(0:Int)≤(i:Int):=zH _
   have i1:(i:Int)<(l.length:Int):=by omega
   have bu:=al aM
   have OP:=al hb
   have b0:0≤b:=hb.1
   have b1:b≤140737488355328:=by omega
   clear hc qB hl hd bd aM hb HA c0 c1 c2 c3 c4 HB
   simp only at HS
   by_cases h1:aE≠0∧aE≠hh
   ·obtain ⟨ha,hb⟩:=h1
    have ea:(aE != 0)=true:=by simpa using ha
    have eb:(aE != hh)=true:=by simpa using hb
    rw[if_pos ⟨ha,hb⟩] at HS
    by_cases h3:aE=b+1
    ·rw[if_neg (fun k=>k h3)] at HS
     have e3:(aE != b+1)=false:=by simpa using h3
     have P9:=al (show 0≤b+1∧b+1≤((i+1:Nat):Int) by have:=ab OP;omega)
     clear ha hb h3
     go_wp2
     go_roundg (l.length-(i+1))
     case measure=>have:=ab bz;have:=ab bu;omega
     case rel=>exact ⟨i+1,_,_,rfl,rfl,by go_num,rfl,ab bu,ab P9,cR,HS⟩
    ·rw[if_pos h3] at HS
     have e3:(aE != b+1)=true:=by simpa using h3
     have HF:=al (show A3 l n=false by unfold A3;rw[ab HS])
     clear ha hb h3
     go_wp2
     go_ret
     rw[ab HF]
     exact ⟨rfl,ab cR⟩
   ·rw[if_neg h1] at HS
    have P9:=al (show 0≤b∧b≤((i+1:Nat):Int) by have:=ab OP;omega)
    by_cases ha:aE=0
    ·have ea:(aE != 0)=false:=by simpa using ha
     clear h1 ha
     go_wp2
     go_roundg (l.length-(i+1))
     case measure=>have:=ab bz;have:=ab bu;omega
     case rel=>exact ⟨i+1,_,_,rfl,rfl,by go_num,rfl,ab bu,ab P9,cR,HS⟩
    ·have ea:(aE != 0)=true:=by simpa using ha
     have eb:(aE != hh)=false:=by
      have:¬aE≠hh:=fun k=>h1 ⟨ha,k⟩
      simpa using this
     clear h1 ha
     go_wp2
     go_roundg (l.length-(i+1))
     case measure=>have:=ab bz;have:=ab bu;omega
     case rel=>exact ⟨i+1,_,_,rfl,rfl,by go_num,rfl,ab bu,ab P9,cR,HS⟩
  ·obtain rfl:i=l.length:=by omega
   have HF:=al (show A3 l n=(b==(n:Int)) by unfold A3;rw[ab HA,List.drop_length];rfl)
   clear HA
   go_wp2
   go_ret
   rw[ab HF]
   exact ⟨rfl,ab HB⟩
end Go.Proofs.YtichhjfjcinjgaaGreatDoor

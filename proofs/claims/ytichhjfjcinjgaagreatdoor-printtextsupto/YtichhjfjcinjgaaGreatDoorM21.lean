import Derived.Test.YtichhjfjcinjgaaGreatDoorYAi
import Derived.Deep.DeepCutAuto
set_option maxHeartbeats 4000000
set_option maxRecDepth 100000
namespace Go.Proofs.YtichhjfjcinjgaaGreatDoor
open Go.RowKit
attribute [local go_sem ↓] Go.wp_at_zero Go.wp_at_succ
theorem qq:∀f,Lp f
 |0=>by
  intro W w B bb dd ll L n m vf vo vm ve vr vg nm fs os ms es rs gs cm ce h hP hF hd fC Dk hn fJ hV nJ hl
  exact nJ.elim
 |f+1=>xA f (qq f)
theorem Eh (W:World):Calls Tryz.prog 43 #[] W fun e w=>∃bb dd ll,(W.heap.size≤bb∧W.heap.size≤dd∧W.heap.size≤ll∧ll≠bb∧ll≠dd)∧e=.returned (.agg #[bX bb dd,ct ll dd,ck bb])∧Pn W bb bb dd [] 0 w∧w.heap[ll]?=some (.cells #[bX bb dd] 85 (0,0)):=by
 refine (BG W).mono ?_
 rintro e w ⟨rfl,h1,h2⟩
 exact ⟨_,_,_,⟨by omega,by omega,by omega,by omega,by omega⟩,rfl,h1,h2⟩
def ja:ByteArray:=⟨#[115,121,110,116,97,120,32,61,32,34,112,114,111,116,111,51,34,59]⟩
def kt:ByteArray:=⟨#[112,97,99,107,97,103,101,32]⟩
def kX:ByteArray:=⟨#[105,109,112,111,114,116,32]⟩
noncomputable def ep (s:ByteArray):List Nat:=aV 0 [kX,bA s,bC]
def lF (p:ByteArray):List Nat:=if p.toList.isEmpty then [] else aV 0 [kt,p,bC]
noncomputable def fx (F:Fl):List Nat:=aV 0 [ja]++lF F.kz++F.cT.flatMap ep++pB 32 0 F.ms F.es
theorem yG {W:World}{v vi vm ve:Value}{F:Fl}{cm ce:List Value} (hP:iY W) (hF:jw W) (A5:A6 W v F vi vm ve cm ce) (Tj:F.cT.length≤4096) (eO:∀s ∈ F.cT,s.size≤1048576) (G0:∀m ∈ F.ms,Jy 32 m) (LY:∀e ∈ F.es,IV e) (hl:(fx F).length≤1099511627776) (eo:mM (fx F)) :
  Calls Tryz.prog 20 #[v] W fun e w=>e=.returned (.string (gp (fx F)))∧Below W.heap.size W w:=by
 obtain ⟨rfl,QU,AY,ej,AZ,fl⟩:=A5
 have bJ:Below W.heap.size W (W.alloc (.cells #[.string F.kz,vi,vm,ve] 26)):=(zE _ _).alloc (zD _) _
 have k0:=aK W (.cells #[.string F.kz,vi,vm,ve] 26)
 obtain ⟨V,hV⟩:∃V,W.alloc (.cells #[.string F.kz,vi,vm,ve] 26)=V:=⟨_,rfl⟩
 rw[hV] at bJ k0
 have OR:=al (fun (bb dd ll:Nat) (w:World) (B:Nat) (L:List Nat) (h:Pn V B bb dd L 0 w) hd fC Dk fJ Nu=>wk 32 (qq 32) (ll:=ll) (n:=0) h (hP.up bJ) (hF.up bJ) hd fC Dk (by decide) fJ (AY.up bJ) (ej.up bJ) (AZ.up bJ) (fl.up bJ) G0 LY Nu)
 have HvI:=al (QU.up bJ)
 have HF:=al (hF.up bJ)
 have FC:=al bJ
 have Jb:=al k0
 have NH:V.heap.size=W.heap.size+1:=by rw[←hV,zJ]
 obtain ⟨ai,ci,rfl,Th,Vy⟩:=QU
 obtain ⟨am,dh,rfl,Jp,Vw⟩:=AY
 obtain ⟨ae,dc,rfl,iG,Vz⟩:=AZ
 have HN:=al (Eh V)
 have Hi1:=al Tj
 have Hi2:=al eO
 have Hl:=al hl
 have Sy:=al eo
 have OG:=al NH
 clear hP hF ej fl Tj eO G0 LY hl eo bJ k0 Vy Vw Vz NH
 go_enter Tryz.func20,Tryz.ntmps20
 go_wp2_with fail
 refine (ab HN).mono ?_
 rintro e' w1 ⟨bb,dd,ll,⟨et,Pv,hl3,fC,Dk⟩,rfl,pD,Ns⟩
 have aY:Below w1.heap.size w1 (w1.alloc (.cells #[bX bb dd,ct ll dd,ck bb] 89)):=(zE _ _).alloc (zD _) _
 have k1:=aK w1 (.cells #[bX bb dd,ct ll dd,ck bb] 89)
 obtain ⟨X,hX⟩:∃X,w1.alloc (.cells #[bX bb dd,ct ll dd,ck bb] 89)=X:=⟨_,rfl⟩
 rw[hX] at aY k1
 have uX:=al (pD.below aY)
 have TW:=al ((aY.block _ (zA Ns).1).trans Ns)
 have iC:=al k1
 have HkF:=al (show X.heap[W.heap.size]?=_ from (Kp.below aY _ _ _ _ (show W.heap.size≠bb by have:=ab OG;omega) ((pD.bV.block _ (by have:=ab OG;omega)).trans (ab Jb)) (by decide)))
 have o3:=al (show w1.heap.size≠bb by have:=pD.bi.lt.2;omega)
 have Hfb:=al (show W.heap.size≠bb by have:=ab OG;omega)
 have p0:X.cell? ⟨w1.heap.size,0,none⟩=some (bX bb dd):=cell_of_row _ _ _ _ _ _ k1
 have hlen:(fx F).length=(aV 0 [ja]).length+(lF F.kz).length+(F.cT.flatMap ep).length+(pB 32 0 F.ms F.es).length:=by unfold fx;simp only[zK]
 have pQ:=al hlen
 have Mk:Hid (∀w,Kp bb X w→w.heap[w1.heap.size]?=some (.cells #[bX bb dd,ct ll dd,ck bb] 89 (0,0))∧w.heap[W.heap.size]?=some (.cells #[.string F.kz,.slice ai F.cT.length ci,.slice am F.ms.length dh,.slice ae F.es.length dc] 26 (0,0))∧w.heap[ll]?=some (.cells #[bX bb dd] 85 (0,0))) :=
  fun w hk=>⟨hk _ _ _ _ (ab o3) (ab iC) (by decide),hk _ _ _ _ (ab Hfb) (ab HkF) (by decide),hk _ _ _ _ fC (ab TW) (by decide)⟩
 unfold bX ct ck at hX
 unfold bX at p0
 unfold bX ct ck
 clear pD Ns aY k1 HN hV hlen TW iC HkF
 go_wp2_with fail
 have bd:Below X.heap.size X (X.alloc (.cells (bY [ja]).toArray 9)):=(zE _ _).alloc (zD _) _
 refine (ir ((ab uX).below bd) (lZ (ps:=[ja]) (c:=1) rfl (ab uX).bi.lt.2) (by have:=ab Hl;have:=ab pQ;simp only[List.length_nil];omega) (by decide)).mono ?_
 rintro e' w2 ⟨rfl,yu,lG⟩
 rw[List.nil_append] at yu
 have lG:Kp bb X w2:=(Kp.below bd).trans lG
 obtain ⟨e1,e2,e3⟩:=ab Mk w2 lG
 have fz:=al yu
 have fA:=al lG
 have f0:w2.cell? ⟨W.heap.size,0,none⟩=some (.string F.kz):=cell_of_row _ _ _ _ _ _ e2
 have q0:w2.cell? ⟨w1.heap.size,0,none⟩=some (bX bb dd):=cell_of_row _ _ _ _ _ _ e1
 unfold bX at q0
 clear yu lG bd p0 uX hX e1 e2 e3
 go_upto_if 13 with fail
 go_cut [13] (fun _ wx=>Hid (Pn V bb bb dd (aV 0 [ja]++lF F.kz) 0 wx)∧Hid (Kp bb X wx))
 case first =>
  cases V8:F.kz.toList.isEmpty with
  |true =>
   go_wp2_with fail
   go_meet
   refine ⟨?_,fA⟩
   unfold lF
   rw[if_pos V8,List.append_nil]
   exact fz
  |false =>
   go_wp2_with fail
   have bd:Below w2.heap.size w2 (w2.alloc (.cells (bY [kt,F.kz,bC]).toArray 9)):=(zE _ _).alloc (zD _) _
   refine (ir ((ab fz).below bd) (lZ (ps:=[kt,F.kz,bC]) (c:=3) rfl (ab fz).bi.lt.2) (by have:=ab Hl;have qw:=ab pQ;unfold lF at qw;rw[if_neg (by rw[V8];decide)] at qw;omega) (by simp)).mono ?_
   rintro e' w3 ⟨rfl,qu,sv⟩
   have o4:=al qu
   have mH:=al ((ab fA).trans ((Kp.below bd).trans sv))
   clear qu sv bd
   go_wp2_with fail
   go_meet
   refine ⟨?_,mH⟩
   unfold lF
   rw[if_neg (by rw[V8];decide)]
   exact o4
 case rest =>
  obtain ⟨o4,mH⟩:=hcut
  clear f0 q0 fz fA
  have f1:wc.cell? ⟨W.heap.size,1,none⟩=some (.slice ai F.cT.length ci):=cell_of_row _ _ _ _ _ _ (ab Mk wc (ab mH)).2.1
  go_wp2_with fail
  clear f1
  go_loopg [5,23] F.cT.length (fun gk _ v23 wr=>∃(i:Nat),v23=.int .i64 (i:Int)∧gk=F.cT.length-i∧i≤F.cT.length∧Hid (Pn V bb bb dd (aV 0 [ja]++lF F.kz++(F.cT.take i).flatMap ep) 0 wr)∧Hid (Kp bb X wr))
  case atStart=>exact ⟨0,rfl,rfl,by omega,by rw[List.take_zero,List.flatMap_nil,List.append_nil];exact o4,mH⟩
  case round =>
   obtain ⟨i,rfl,aU,hi,yA,yC⟩:=hrel
   have bz:=al aU
   clear aU o4 mH
   by_cases aM:i<F.cT.length
   ·obtain ⟨a2,c2,Zq,-,Ev⟩:=ab HvI
    obtain ⟨g,o,hai,hg,hc⟩:=Ev (by omega)
    simp only[Value.slice.injEq] at Zq
    obtain ⟨rfl,-,rfl⟩:=Zq
    subst hai
    have hr:=List.getElem?_eq_getElem aM
    have cG:=List.getElem_mem aM
    obtain ⟨r,tT⟩:∃r,F.cT[i]=r:=⟨_,rfl⟩
    rw[tT] at hr cG
    have x0:=((ab yA).bV.cell (p:=⟨g,o+i,none⟩) hg).trans (hc _ _ (show (bY F.cT)[i]?=some (.string r) by unfold bY;rw[List.getElem?_map,hr];rfl))
    have j6:(F.cT.take (i+1)).flatMap ep=(F.cT.take i).flatMap ep++ep r:=by
     obtain ⟨G5,rfl⟩:=zB hr
     rw[List.take_succ_eq_append_getElem G5,List.flatMap_append]
     simp
    have fJ:(aV 0 [ja]++lF F.kz++(F.cT.take i).flatMap ep).length+(ep r).length≤1099511627776:=by
     have e2:F.cT.flatMap ep=(F.cT.take (i+1)).flatMap ep++(F.cT.drop (i+1)).flatMap ep:=by rw[←List.flatMap_append,List.take_append_drop]
     have h1:=ab pQ
     rw[e2,j6] at h1
     simp only[zK] at h1 ⊢
     have:=ab Hl
     omega
    have RO:(fun w':World=>w'.cell? ⟨w1.heap.size,0,none⟩=some (.func (.func 80) #[] #[.pointer (some ⟨bb,0,none⟩),.pointer (some ⟨dd,0,none⟩)])) wr:=cell_of_row _ _ _ _ _ _ (ab Mk wr (ab yC)).1
    have hT:(fun w':World=>w'.cell? ⟨w1.heap.size,0,none⟩=some (.func (.func 80) #[] #[.pointer (some ⟨bb,0,none⟩),.pointer (some ⟨dd,0,none⟩)])) wr.drew:=RO
    have i0:(0:Int)≤(i:Int):=zH _
    have i1:(i:Int)<(F.cT.length:Int):=by omega
    have bu:=al aM
    have HQ:=al (fun w' (h:jw w')=>vU h r (ab Hi2 r cG))
    have nR:=al fJ
    have yi:=al j6
    clear hc hr cG tT j6 fJ aM RO
    go_upto_region 8 with fail
    refine wp_region_any (by kernel_rfl) (bK (z:=99) (T:=fun w'=>w'.cell? ⟨w1.heap.size,0,none⟩=some (.func (.func 80) #[] #[.pointer (some ⟨bb,0,none⟩),.pointer (some ⟨dd,0,none⟩)])) _ _ _ _ ?_)
    try (change bZ _ _ _ _ _ _ _ _ _ (World.drew _))
    refine aw 0 (.pointer (some ⟨w1.heap.size,0,none⟩)) 27 rfl rfl (Or.inl ⟨by rfl,fun w' hw=>by go_simp⟩) hT ?_
    simp only[Act.put,zL,zM,zN]
    refine aw 1 (.func (.func 80) #[] #[.pointer (some ⟨bb,0,none⟩),.pointer (some ⟨dd,0,none⟩)]) 28 rfl rfl (Or.inl ⟨by rfl,fun w' hw=>by go_simp⟩) hT ?_
    simp only[Act.put,zL,zM,zN]
    refine aw 2 (.string r) 29 rfl rfl (Or.inl ⟨by rfl,fun w' hw=>by go_simp⟩) hT ?_
    simp only[Act.put,zL,zM,zN]
    refine aF 3 (by kernel_rfl) rfl (fun K hK=>?_)
    refine aO 30 rfl rfl 44 (fun vs=>by kernel_rfl) #[.tmp 29] #[9] rfl #[.string r] (by first|rfl|simp[Act.eval]) (ab HQ wr.drew ((ab HF).up (below_drewN (ab yA).bV 1))) ?_
    rintro e' w3 ⟨rfl,cC⟩
    have cC:Below wr.heap.size wr w3:=⟨cC.os,cC.tape,cC.output,cC.size,cC.block⟩
    have qu:=(ab yA).below cC
    have sv:=(ab yC).trans (Kp.below cC)
    have yx:(fun w':World=>w'.cell? ⟨w1.heap.size,0,none⟩=some (.func (.func 80) #[] #[.pointer (some ⟨bb,0,none⟩),.pointer (some ⟨dd,0,none⟩)])) w3:=cell_of_row _ _ _ _ _ _ (ab Mk w3 sv).1
    refine ⟨_,rfl,hK _ _ ⟨fun _=>yx,?_⟩⟩
    clear hK K hT
    simp only[Act.put,zL,zM,zN]
    have gR:Below w3.heap.size w3 (w3.alloc (.cells #[.string kX,.string (bA r),.string bC] 9)):=(zE _ _).alloc (zD _) _
    have A4:(fun w':World=>w'.cell? ⟨w1.heap.size,0,none⟩=some (.func (.func 80) #[] #[.pointer (some ⟨bb,0,none⟩),.pointer (some ⟨dd,0,none⟩)])) (w3.alloc (.cells #[.string kX,.string (bA r),.string bC] 9)):=cell_of_row _ _ _ _ _ _ (ab Mk _ (sv.trans (Kp.below gR))).1
    refine aF 4 (by kernel_rfl) rfl (fun K hK=>?_)
    go_simp
    refine hK _ _ ⟨fun _=>A4,?_⟩
    clear hK K
    refine aF 5 (by kernel_rfl) rfl (fun K hK=>?_)
    refine jC 32 28 rfl 80 #[] #[.pointer (some ⟨bb,0,none⟩),.pointer (some ⟨dd,0,none⟩)] (fun vs=>by kernel_rfl) #[.tmp 31] #[22] rfl (by first|rfl|simp[Act.eval]) #[.slice (some ⟨w3.heap.size,0,none⟩) 3 3,.pointer (some ⟨bb,0,none⟩),.pointer (some ⟨dd,0,none⟩)] (by first|rfl|simp[Act.eval]) (ir (qu.below gR) (lZ (ps:=[kX,bA r,bC]) (c:=3) rfl qu.bi.lt.2) (ab nR) (by simp)) (by rfl) ?_
    rintro e' w5 ⟨rfl,mZ,jx⟩
    have jb:Kp bb X w5:=sv.trans ((Kp.below gR).trans jx)
    have lL:=al (show Pn V bb bb dd (aV 0 [ja]++lF F.kz++(F.cT.take (i+1)).flatMap ep) 0 w5 by rw[ab yi,←List.append_assoc];exact mZ)
    have sd:=al jb
    have uj:(fun w':World=>w'.cell? ⟨w1.heap.size,0,none⟩=some (.func (.func 80) #[] #[.pointer (some ⟨bb,0,none⟩),.pointer (some ⟨dd,0,none⟩)])) w5:=cell_of_row _ _ _ _ _ _ (ab Mk _ jb).1
    refine ⟨_,rfl,hK _ _ ⟨fun _=>uj,?_⟩⟩
    clear hK K yx A4 uj mZ jx jb cC gR qu sv HQ nR yi yA yC
    simp only[Act.put,zL,zM,zN]
    refine aZ (by kernel_rfl) ?_
    go_wp2
    go_roundg (F.cT.length-(i+1))
    case measure=>have:=ab bz;have:=ab bu;omega
    case rel=>exact ⟨i+1,by go_num,rfl,ab bu,lL,sd⟩
   ·obtain rfl:i=F.cT.length:=by omega
    have uT:=ab yA
    rw[List.take_length] at uT
    obtain ⟨e1,e2,e3⟩:=ab Mk wr (ab yC)
    have HI:=al (ab OR bb dd ll wr bb _ uT Pv fC Dk e3 (by have:=ab Hl;have:=ab pQ;simp only[zK];omega))
    have f2:wr.cell? ⟨W.heap.size,2,none⟩=some (.slice am F.ms.length dh):=cell_of_row _ _ _ _ _ _ e2
    have f3:wr.cell? ⟨W.heap.size,3,none⟩=some (.slice ae F.es.length dc):=cell_of_row _ _ _ _ _ _ e2
    have q0:wr.cell? ⟨w1.heap.size,0,none⟩=some (bX bb dd):=cell_of_row _ _ _ _ _ _ e1
    have q1:wr.cell? ⟨w1.heap.size,1,none⟩=some (ct ll dd):=cell_of_row _ _ _ _ _ _ e1
    have q2:wr.cell? ⟨w1.heap.size,2,none⟩=some (ck bb):=cell_of_row _ _ _ _ _ _ e1
    unfold eI bX ct ck at HI
    unfold bX at q0
    unfold ct at q1
    unfold ck at q2
    clear uT e1 e2 e3 yA
    go_wp2_with fail
    refine (ab HI).mono ?_
    rintro e' w5 ⟨rfl,mZ,jx⟩
    have sd:=al ((ab yC).trans jx)
    have r2:w5.cell? ⟨w1.heap.size,2,none⟩=some (ck bb):=cell_of_row _ _ _ _ _ _ (ab Mk w5 (ab sd)).1
    unfold ck at r2
    have HS:=al (Wz (show BI bb bb (fx F) w5 from mZ.bi) (ab Sy) mZ.size)
    have lL:=al mZ
    clear mZ jx HI f2 f3 q0 q1 q2 yC
    go_wp2_with fail
    refine (ab HS).mono ?_
    rintro e' w6 ⟨rfl,oI⟩
    have HE:=al (show Below W.heap.size W w6 from (ab FC).trans (((ab lL).bV.trans (oI.mono et)).mono (ab FC).size))
    clear oI HS lL
    go_wp2
    go_ret
    exact ⟨rfl,ab HE⟩
def gd (lo hi:Int) (r:Int×Int):Bool:=decide (lo≤r.1)&&decide (r.1≤r.2)&&decide (r.2≤hi)
def E8 (g h:Nat) (lo hi:Int) (_:Unit) (w:World):Prop:=w.heap[g]?=some (.cells #[.int .i64 lo] 3 (0,0))∧w.heap[h]?=some (.cells #[.int .i64 hi] 3 (0,0))
theorem CS (g h:Nat) (lo hi:Int):Jw (E8 g h lo hi):=fun _ _ _ hj hg=>⟨(hg.block _ (zA hj.1).1 (by simp)).trans hj.1,(hg.block _ (zA hj.2).1 (by simp)).trans hj.2⟩
theorem QC {W:World}{g h:Nat}{lo hi:Int} (hj:E8 g h lo hi () W) (a b:Int):Calls Tryz.prog 120 #[.agg #[.int .i64 a,.int .i64 b],.pointer (some ⟨g,0,none⟩),.pointer (some ⟨h,0,none⟩)] W fun e w=>e=.returned (.bool (gd lo hi (a,b)))∧W.grownBy w none:=by
 have hn:=aK W (.cells #[.int .i64 a,.int .i64 b] 111)
 have c0:(W.alloc (.cells #[.int .i64 a,.int .i64 b] 111)).cell? ⟨W.heap.size,0,none⟩=some (.int .i64 a):=cell_of_row _ _ _ _ _ _ hn
 have c1:(W.alloc (.cells #[.int .i64 a,.int .i64 b] 111)).cell? ⟨W.heap.size,1,none⟩=some (.int .i64 b):=cell_of_row _ _ _ _ _ _ hn
 have g0:(W.alloc (.cells #[.int .i64 a,.int .i64 b] 111)).cell? ⟨g,0,none⟩=some (.int .i64 lo):=cell_of_row _ _ _ _ _ _ ((Below.heap_alloc _ _ _ (zA hj.1).1).trans hj.1)
 have h0:(W.alloc (.cells #[.int .i64 a,.int .i64 b] 111)).cell? ⟨h,0,none⟩=some (.int .i64 hi):=cell_of_row _ _ _ _ _ _ ((Below.heap_alloc _ _ _ (zA hj.2).1).trans hj.2)
 have HG:=al (World.grownBy_alloc W (.cells #[.int .i64 a,.int .i64 b] 111) none)
 unfold gd
 simp only
 clear hn hj
 obtain ⟨q1,h1⟩:∃q,decide (lo≤a)=q:=⟨_,rfl⟩
 obtain ⟨q2,h2⟩:∃q,decide (a≤b)=q:=⟨_,rfl⟩
 rw[h1,h2]
 cases q1 with
 |false =>
  clear h2
  go_enter Tryz.func120,Tryz.ntmps120
  go_wp2
  go_ret
  exact ⟨rfl,ab HG⟩
 |true =>
  cases q2 with
  |false =>
   go_enter Tryz.func120,Tryz.ntmps120
   go_wp2
   go_ret
   exact ⟨rfl,ab HG⟩
  |true =>
   go_enter Tryz.func120,Tryz.ntmps120
   go_wp2
   go_ret
   exact ⟨rfl,ab HG⟩
theorem wh (W:World) (lo hi:Int):Calls Tryz.prog 74 #[.int .i64 lo,.int .i64 hi] W fun e w=>e=.returned (.func (.func 120) #[] #[.pointer (some ⟨W.heap.size,0,none⟩),.pointer (some ⟨W.heap.size+1,0,none⟩)])∧w=(W.alloc (.cells #[.int .i64 lo] 3)).alloc (.cells #[.int .i64 hi] 3):=by
 go_enter Tryz.func74,Tryz.ntmps74
 go_wp2
 go_ret
 exact ⟨rfl,rfl⟩
theorem DF {W:World}{v:Value}{l:List (Int×Int)}{g h:Nat}{lo hi:Int} (hv:Rl W v l.length (kO l)) (w0:World) (hw:Below W.heap.size W w0) (hj:E8 g h lo hi () w0) :
  Calls Tryz.prog 73 #[v,.func (.func 120) #[] #[.pointer (some ⟨g,0,none⟩),.pointer (some ⟨h,0,none⟩)]] w0 fun e w=>e=.returned (.bool (l.all (gd lo hi)))∧Below w0.heap.size w0 w:=by
 have hS:eQ false W.heap.size W none (E8 g h lo hi) ⟨120,#[],#[.pointer (some ⟨g,0,none⟩),.pointer (some ⟨h,0,none⟩)]⟩ (lC 2 (kO l)) l.length (fun i=>yes (((l[i]?).map (gd lo hi)).getD false)):=by
  intro i eO s w _ jU
  obtain ⟨a,b,e1,y0,y1⟩:=ER (C4 l) eO
  have hl:=List.getElem?_eq_getElem eO
  have z0:=(gz hl (j:=0) (by decide)).symm.trans y0
  have z1:=(gz hl (j:=1) (by decide)).symm.trans y1
  obtain rfl:=zC z0
  obtain rfl:=zC z1
  have e2:((l[i]?).map (gd lo hi)).getD false=gd lo hi l[i]:=by rw[hl];rfl
  simp only[e1,e2,wX,Bool.false_bne]
  show Calls Tryz.prog 120 #[.agg #[.int .i64 l[i].1,.int .i64 l[i].2],.pointer (some ⟨g,0,none⟩),.pointer (some ⟨h,0,none⟩)] w _
  refine (QC jU l[i].1 l[i].2).mono ?_
  rintro e w' ⟨rfl,hg⟩
  exact ⟨rfl,fun _ _=>CS g h lo hi _ _ _ jU hg,hg⟩
 have:=IM hv (fun vs w=>by kernel_rfl) hS (fun _ e=>by cases e) (C4 l) w0 () hw hj (CS g h lo hi) (fun _ e=>by cases e)
 refine this.mono ?_
 rintro e w ⟨rfl,_,hg⟩
 rw[mF (l:=l) (q:=gd lo hi) (fun i x hx=>by simp[hx]) rfl]
 exact ⟨rfl,hg.os,hg.tape,hg.output,hg.size,fun k hk=>hg.block k hk (by simp)⟩
noncomputable def ey (v:ByteArray×Int):Bool:=bD v.1&&!(v.1.toList==eR.toList)&&!(v.1.toList==dt.toList)&&(decide (-2147483648≤v.2)&&decide (v.2≤2147483647))
theorem DT (W:World) (s:ByteArray) (n:Int):Calls Tryz.prog 79 #[.agg #[.string s,.int .i64 n]] W fun e w=>e=.returned (.bool (ey (s,n)))∧W.grownBy w none:=by
 have hn:=aK W (.cells #[.string s,.int .i64 n] 74)
 have c0:(W.alloc (.cells #[.string s,.int .i64 n] 74)).cell? ⟨W.heap.size,0,none⟩=some (.string s):=cell_of_row _ _ _ _ _ _ hn
 have c1:(W.alloc (.cells #[.string s,.int .i64 n] 74)).cell? ⟨W.heap.size,1,none⟩=some (.int .i64 n):=cell_of_row _ _ _ _ _ _ hn
 have HG:=al (World.grownBy_alloc W (.cells #[.string s,.int .i64 n] 74) none)
 have HW:=al (fun w=>ic w s)
 have HN:=al (fun w=>nv w n (-2147483648) 2147483647)
 unfold ey
 simp only
 obtain ⟨q1,h1⟩:∃q,bD s=q:=⟨_,rfl⟩
 obtain ⟨q2,h2⟩:∃q,(s.toList==[111,112,116,105,111,110])=q:=⟨_,rfl⟩
 obtain ⟨q3,h3⟩:∃q,(s.toList==[114,101,115,101,114,118,101,100])=q:=⟨_,rfl⟩
 obtain ⟨q4,h4⟩:∃q,(decide (-2147483648≤n)&&decide (n≤2147483647))=q:=⟨_,rfl⟩
 have e2:(s.toList==eR.toList)=q2:=by rw[←h2,toList_data eR];rfl
 have e3:(s.toList==dt.toList)=q3:=by rw[←h3,toList_data dt];rfl
 rw[h1] at HW ⊢
 rw[h4] at HN ⊢
 rw[e2,e3]
 clear h1 h4 e2 e3 hn
 go_enter Tryz.func79,Tryz.ntmps79
 go_wp2_with fail
 refine (ab HW _).mono ?_
 rintro e w ⟨rfl,rfl⟩
 cases q1 with
 |false =>
  go_wp2
  go_ret
  exact ⟨rfl,ab HG⟩
 |true =>
 cases q2 with
 |true =>
  go_wp2
  go_ret
  exact ⟨rfl,ab HG⟩
 |false =>
 cases q3 with
 |true =>
  go_wp2
  go_ret
  exact ⟨rfl,ab HG⟩
 |false =>
 go_wp2_with fail
 refine (ab HN _).mono ?_
 rintro e w' ⟨rfl,rfl⟩
 go_wp2
 go_ret
 exact ⟨rfl,ab HG⟩
theorem Lh {W:World}{v:Value}{l:List (ByteArray×Int)} (hv:Rl W v l.length (qM l)) (w0:World) (hw:Below W.heap.size W w0) :
  Calls Tryz.prog 78 #[v,.func (.func 79) #[] #[]] w0 fun e w=>e=.returned (.bool (l.all ey))∧Below w0.heap.size w0 w:=by
 have hS:eQ false W.heap.size W none TL ⟨79,#[],#[]⟩ (lC 2 (qM l)) l.length (fun i=>yes (((l[i]?).map ey).getD false)):=by
  intro i eO s w _ _
  obtain ⟨a,b,e1,y0,y1⟩:=ER (Dx l) eO
  have hl:=List.getElem?_eq_getElem eO
  have z0:=(fD hl (j:=0) (by decide)).symm.trans y0
  have z1:=(fD hl (j:=1) (by decide)).symm.trans y1
  obtain rfl:=zC z0
  obtain rfl:=zC z1
  have e2:((l[i]?).map ey).getD false=ey l[i]:=by rw[hl];rfl
  simp only[e1,e2,wX,Bool.false_bne]
  show Calls Tryz.prog 79 #[.agg #[.string l[i].1,.int .i64 l[i].2]] w _
  refine (DT w l[i].1 l[i].2).mono ?_
  rintro e w' ⟨rfl,hg⟩
  exact ⟨rfl,fun _ _=>trivial,hg⟩
 have:=IK hv (fun vs w=>by kernel_rfl) hS (fun _ e=>by cases e) (Dx l) w0 () hw trivial Bm (fun _ e=>by cases e)
 refine this.mono ?_
 rintro e w ⟨rfl,_,hg⟩
 rw[mF (l:=l) (q:=ey) (fun i x hx=>by simp[hx]) rfl]
 exact ⟨rfl,hg.os,hg.tape,hg.output,hg.size,fun k hk=>hg.block k hk (by simp)⟩
theorem Lj {W:World} (hM:iB W) {v:Value}{l:List Fd} (hv:Rl W v l.length (fp l)) (lz:∀d ∈ l,d.ty.size≤281474976710656) (w0:World) (hw:Below W.heap.size W w0) :
  Calls Tryz.prog 70 #[v,.func (.func 71) #[] #[]] w0 fun e w=>e=.returned (.bool (l.all cI))∧Below w0.heap.size w0 w:=by
 have hS:eQ false W.heap.size W none TL ⟨71,#[],#[]⟩ (lC 6 (fp l)) l.length (fun i=>yes (((l[i]?).map cI).getD false)):=by
  intro i eO s w hb _
  obtain ⟨a0,a1,a2,a3,a4,a5,e1,y0,y1,y2,y3,y4,y5⟩:=N0 (Aq l) eO
  have hl:=List.getElem?_eq_getElem eO
  obtain rfl:=zC ((cz hl (j:=0) (by decide)).symm.trans y0)
  obtain rfl:=zC ((cz hl (j:=1) (by decide)).symm.trans y1)
  obtain rfl:=zC ((cz hl (j:=2) (by decide)).symm.trans y2)
  obtain rfl:=zC ((cz hl (j:=3) (by decide)).symm.trans y3)
  obtain rfl:=zC ((cz hl (j:=4) (by decide)).symm.trans y4)
  obtain rfl:=zC ((cz hl (j:=5) (by decide)).symm.trans y5)
  have e2:((l[i]?).map cI).getD false=cI l[i]:=by rw[hl];rfl
  simp only[e1,e2,wX,Bool.false_bne]
  show Calls Tryz.prog 71 #[.agg (Fd.cs l[i]).toArray] w _
  refine (EN (hM.up hb hM.1) l[i] (lz _ (List.getElem_mem eO))).mono ?_
  rintro e w' ⟨rfl,hg⟩
  exact ⟨rfl,fun _ _=>trivial,hg.os,hg.tape,hg.output,hg.size,fun k hk _=>hg.block k hk⟩
 have:=IN hv (fun vs w=>by kernel_rfl) hS (fun _ e=>by cases e) (Aq l) w0 () hw trivial Bm (fun _ e=>by cases e)
 refine this.mono ?_
 rintro e w ⟨rfl,_,hg⟩
 rw[mF (l:=l) (q:=cI) (fun i x hx=>by simp[hx]) rfl]
 exact ⟨rfl,hg.os,hg.tape,hg.output,hg.size,fun k hk=>hg.block k hk (by simp)⟩
def vX:List Fd→Int→Int→Option Int
 |[],_,b=>some b
 |d::r,h,b=>if d.aE≠0∧d.aE≠h then (if d.aE≠b+1 then none else vX r d.aE (b+1)) else vX r d.aE b
def AV (l:List Fd) (n:Int):Bool:=match vX l 0 0 with
 |none=>false
 |some b=>b==n
theorem xv:∀(l:List Fd) (h b:Int) (r:Int),vX l h b=some r→b≤r∧r≤b+l.length
 |[],h,b,r,e=>by obtain rfl:=zC e;simp
 |d::l,h,b,r,e=>by
  unfold vX at e
  rw[List.length_cons]
  split at e
  ·split at e
   ·cases e
   ·have:=xv l _ _ _ e;omega
  ·have:=xv l _ _ _ e;omega
theorem zv {l:List Fd}{i:Nat}{d:Fd} (h:l[i]?=some d) (hh b:Int):vX (l.drop i) hh b=if d.aE≠0∧d.aE≠hh then (if d.aE≠b+1 then none else vX (l.drop (i+1)) d.aE (b+1)) else vX (l.drop (i+1)) d.aE b:=by
 obtain ⟨hi,rfl⟩:=zB h
 rw[List.drop_eq_getElem_cons hi]
 rfl
theorem xH {W:World}{v:Value}{l:List Fd} (hv:Rl W v l.length (fp l)) (n:Nat) (w0:World) (hw:Below W.heap.size W w0):Calls Tryz.prog 72 #[v,.int .i64 (n:Int)] w0 fun e w=>e=.returned (.bool (AV l n))∧Below w0.heap.size w0 w:=by
 obtain ⟨a,c,rfl,hn,h2⟩:=hv
 have H2:=al h2
 have HW:=al hw
 clear h2 hw
 go_enter Tryz.func72,Tryz.ntmps72
 go_wp2
 go_loopg [5,6,8,11] l.length (fun gk v5 v6 _ v11 wr=>∃(i:Nat) (hh b:Int),v5=.int .i64 hh∧v6=.int .i64 b∧v11=.int .i64 (i:Int)∧gk=l.length-i∧i≤l.length∧(0≤b∧b≤(i:Int))∧Hid (Below w0.heap.size w0 wr)∧Hid (vX l 0 0=vX (l.drop i) hh b))
 case atStart=>exact ⟨0,0,0,rfl,rfl,rfl,rfl,by omega,by omega,zE _ _,rfl⟩
 case round =>
  obtain ⟨i,hh,b,rfl,rfl,rfl,aU,hi,hb,HB,HA⟩:=hrel
  have bz:=al aU
  clear aU
  by_cases aM:i<l.length
  ·obtain ⟨g,o,rfl,hg,hc⟩:=ab H2 (by omega)
   have hl:=List.getElem?_eq_getElem aM
   obtain ⟨d,hd⟩:∃d,l[i]=d:=⟨_,rfl⟩
   rw[hd] at hl
   have HS:=al ((ab HA).trans (zv hl hh b))
   have qx:∀j,j<6→wr.cell? ⟨g,o+(i*6+j),none⟩=d.cs[j]?:=by
    intro j hj
    have e:=cz hl hj
    obtain ⟨x,hx⟩:∃x,d.cs[j]?=some x:=⟨_,List.getElem?_eq_getElem (by unfold Fd.cs;exact hj)⟩
    rw[hx] at e ⊢
    have aS:Below W.heap.size W wr:=(ab HW).trans ((ab HB).mono (ab HW).size)
    exact (aS.cell (p:=⟨g,o+(i*6+j),none⟩) hg).trans (hc _ _ e)
   obtain ⟨aP,key,ty,nm,num,aE⟩:=d
   unfold Fd.cs at qx
   have x0:=qx 0 (by decide)
   have x1:=qx 1 (by decide)
   have x2:=qx 2 (by decide)
   have x3:=qx 3 (by decide)
   have x4:=qx 4 (by decide)
   have x5:=qx 5 (by decide)
   rw[Nat.add_zero] at x0
   rw[←Nat.add_assoc] at x1 x2 x3 x4 x5
   simp only[List.getElem?_cons_zero,List.getElem?_cons_succ] at x0 x1 x2 x3 x4 x5
   obtain ⟨⟨c0,c1,c2,c3,c4,c5⟩,-,bd⟩:=jO wr aP num aE key ty nm
   have cP:=al ((ab HB).trans (bd.mono (ab HB).size))
   have i0:(0:Int)≤(i:Int):=zH _
   have i1:(i:Int)<(l.length:Int):=by omega
   have bu:=al aM
   have OE:=al hb
   have b0:0≤b:=hb.1
   have b1:b≤140737488355328:=by omega
   clear hc qx hl hd bd aM hb HA c0 c1 c2 c3 c4 HB
   simp only at HS
   by_cases h1:aE≠0∧aE≠hh
   ·obtain ⟨ha,hb⟩:=h1
    have ea:(aE != 0)=true:=by simpa using ha
    have eb:(aE != hh)=true:=by simpa using hb
    rw[if_pos ⟨ha,hb⟩] at HS
    by_cases h3:aE=b+1
    ·rw[if_neg (fun k=>k h3)] at HS
     have e3:(aE != b+1)=false:=by simpa using h3
     have PX:=al (show 0≤b+1∧b+1≤((i+1:Nat):Int) by have:=ab OE;omega)
     clear ha hb h3
     go_wp2
     go_roundg (l.length-(i+1))
     case measure=>have:=ab bz;have:=ab bu;omega
     case rel=>exact ⟨i+1,_,_,rfl,rfl,by go_num,rfl,ab bu,ab PX,cP,HS⟩
    ·rw[if_pos h3] at HS
     have e3:(aE != b+1)=true:=by simpa using h3
     have HF:=al (show AV l n=false by unfold AV;rw[ab HS])
     clear ha hb h3
     go_wp2
     go_ret
     rw[ab HF]
     exact ⟨rfl,ab cP⟩
   ·rw[if_neg h1] at HS
    have PX:=al (show 0≤b∧b≤((i+1:Nat):Int) by have:=ab OE;omega)
    by_cases ha:aE=0
    ·have ea:(aE != 0)=false:=by simpa using ha
     clear h1 ha
     go_wp2
     go_roundg (l.length-(i+1))
     case measure=>have:=ab bz;have:=ab bu;omega
     case rel=>exact ⟨i+1,_,_,rfl,rfl,by go_num,rfl,ab bu,ab PX,cP,HS⟩
    ·have ea:(aE != 0)=true:=by simpa using ha
     have eb:(aE != hh)=false:=by
      have:¬aE≠hh:=fun k=>h1 ⟨ha,k⟩
      simpa using this
     clear h1 ha
     go_wp2
     go_roundg (l.length-(i+1))
     case measure=>have:=ab bz;have:=ab bu;omega
     case rel=>exact ⟨i+1,_,_,rfl,rfl,by go_num,rfl,ab bu,ab PX,cP,HS⟩
  ·obtain rfl:i=l.length:=by omega
   have HF:=al (show AV l n=(b==(n:Int)) by unfold AV;rw[ab HA,List.drop_length];rfl)
   clear HA
   go_wp2
   go_ret
   rw[ab HF]
   exact ⟨rfl,ab HB⟩
end Go.Proofs.YtichhjfjcinjgaaGreatDoor

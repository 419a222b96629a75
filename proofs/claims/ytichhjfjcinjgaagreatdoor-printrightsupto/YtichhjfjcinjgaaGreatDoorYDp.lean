import Derived.Test.YtichhjfjcinjgaaGreatDoorM44
set_option maxHeartbeats 16000000
set_option maxRecDepth 100000
namespace Go.Proofs.YtichhjfjcinjgaaGreatDoor
open Go.RowKit
attribute [local go_sem ↓] Go.wp_at_zero Go.wp_at_succ
def YI (f:Nat):Prop:=∀(W w:World) (pg:Nat) (L:List Nat) (v:Value) (n:Nat) (m:Ms) vf vo vm ve vr vg nm fs os ms es rs gs cm ce,Pg W pg L v w→ir W→n+1+f≤490→L0 W m vf vo vm ve vr vg nm fs os ms es rs gs cm ce→Kh f m→O4 f m→L.length+(ct n aL nm (ck f (n+1) m)).length≤1099511627776 →
 Calls Tryz.prog 28 #[.pointer (some ⟨pg,0,none⟩),.int .i64 (n:Int),.agg #[.string nm,vf,vo,vm,ve,vr,vg]] w (LZ W pg (L++ct n aL nm (ck f (n+1) m)) w)
theorem wj {f:Nat} (ih:YI f):YI (f+1):=by
 intro W w pg L v n m vf vo vm ve vr vg nm fs os ms es rs gs cm ce h hF hn hV ho RI hl
 have eo:=hV.is
 subst eo
 obtain ⟨-,ZB,Zy,ZA,Zz,ZC⟩:=ho
 obtain ⟨ID,Zo,Zq⟩:=RI
 have P2:=ID
 unfold uB at P2
 simp only[Bool.and_eq_true] at P2
 have zn:nm.size≤255:=dG P2.1.1.1.1.1
 have O':Hid (∀s ∈ os,s.size≤255):=fun s hs=>dG (List.all_eq_true.1 P2.1.1.1.1.2 s hs)
 have Hfz:Hid (∀d ∈ fs,d.name.size≤255):=fun d hd=>(uZ (List.all_eq_true.1 P2.1.1.1.2 d hd)).2
 have X8:Hid (∀e ∈ es,e.name.size≤255∧∀v ∈ e.aR,v.1.size≤255):=fun e he=>by
  have h1:=Zq e he
  unfold bc at h1
  simp only[Bool.and_eq_true] at h1
  refine ⟨dG h1.1.1.1.1,fun v hv=>?_⟩
  have h2:=List.all_eq_true.1 h1.1.1.2 v hv
  unfold eD at h2
  simp only[Bool.and_eq_true] at h2
  exact dG h2.1.1.1
 have HOf:=al ZB
 have Yn:=al Zz
 have Yo:=al ZC
 have MW:=al Zo
 have FU:=al ih
 have HF:=al hF
 have Qz:=al (fun (w':World) (L':List Nat) (u:Value) (hP:Pg W pg L' u w') (N5:L'.length+(fg (n+1) 536870911 rs gs).length≤1099511627776)=>AW hP hF (n+1) (by omega) hV.hr hV.hg Zy ZA N5)
 have wH:=al hV.fA
 have wG:=al hV.eo
 obtain ⟨af,cf,rfl,P0,lf⟩:=hV.hf
 obtain ⟨ao,co,rfl,nJ,lo⟩:=hV.ho
 obtain ⟨am,dk,rfl,IC,lm⟩:=hV.hm
 obtain ⟨ae,dc,rfl,iP,le⟩:=hV.he
 obtain ⟨ar,cr,rfl,-,-⟩:=hV.hr
 obtain ⟨ag,cg,rfl,-,-⟩:=hV.hg
 have Py:=al lf
 have Pv:=al lo
 have wz:=al lm
 have wF:=al le
 have k0:=aJ w (.cells #[.string nm,.slice af fs.length cf,.slice ao os.length co,.slice am ms.length dk,.slice ae es.length dc,.slice ar rs.length cr,.slice ag gs.length cg] 46)
 have bG:Below w.heap.size w (w.alloc (.cells #[.string nm,.slice af fs.length cf,.slice ao os.length co,.slice am ms.length dk,.slice ae es.length dc,.slice ar rs.length cr,.slice ag gs.length cg] 46)):=(zE _ _).alloc (zD _) _
 have zf:Hid (w.heap.size≠pg):=fun e=>by have:=(zA h.dt).1;omega
 obtain ⟨V,fX⟩:∃V,w.alloc (.cells #[.string nm,.slice af fs.length cf,.slice ao os.length co,.slice am ms.length dk,.slice ae es.length dc,.slice ar rs.length cr,.slice ag gs.length cg] 46)=V:=⟨_,rfl⟩
 rw[fX] at k0 bG
 obtain ⟨c0,c1,c2,c3,c4,c5,c6⟩:=dK k0
 have hE:ct n aL nm (ck (f+1) (n+1) (.mk nm fs os ms es rs gs))=aY n [⟨#[109,101,115,115,97,103,101,32]⟩++nm++⟨#[32,123]⟩]++(fg (n+1) 536870911 rs gs++(cl fs).flatMap (dH (n+1) os)++(ms.flatMap (fun m=>ct (n+1) aL m.nm (ck f (n+1+1) m))++es.flatMap (jO (n+1))))++aY n [⟨#[125]⟩]:=by
  rw[show (⟨#[109,101,115,115,97,103,101,32]⟩:ByteArray)=aL++⟨#[32]⟩ from rfl,sR]
  rfl
 rw[hE] at hl ⊢
 have Ln:L.length+(2*n+(nm.size+10)+1)+(fg (n+1) 536870911 rs gs).length+((cl fs).flatMap (dH (n+1) os)).length+(ms.flatMap (fun m=>ct (n+1) aL m.nm (ck f (n+1+1) m))).length+(es.flatMap (jO (n+1))).length+(2*n+2)≤1099511627776:=by
  rw[zK,zK,zK,zK,zK,dU,dU,ByteArray.size_append,ByteArray.size_append] at hl
  have:(⟨#[109,101,115,115,97,103,101,32]⟩:ByteArray).size=8:=rfl
  have:(⟨#[32,123]⟩:ByteArray).size=2:=rfl
  have:(⟨#[125]⟩:ByteArray).size=1:=rfl
  omega
 have yx:=h.below bG
 have hG:=dj yx n (⟨#[109,101,115,115,97,103,101,32]⟩++nm++⟨#[32,123]⟩) (by omega) (by rw[ByteArray.size_append,ByteArray.size_append];have:(⟨#[109,101,115,115,97,103,101,32]⟩:ByteArray).size=8:=rfl;have:(⟨#[32,123]⟩:ByteArray).size=2:=rfl;omega)
 have HG:=al hG
 have z1:((⟨#[109,101,115,115,97,103,101,32]⟩:ByteArray)++nm).size≤300:=by rw[ByteArray.size_append];have:(⟨#[109,101,115,115,97,103,101,32]⟩:ByteArray).size=8:=rfl;omega
 have kA:=al k0
 have F1:Hid (Kp pg w V):=Kp.below bG
 obtain ⟨L1,Lx⟩:∃X,L++aY n [⟨#[109,101,115,115,97,103,101,32]⟩++nm++⟨#[32,123]⟩]=X:=⟨_,rfl⟩
 rw[Lx] at HG
 obtain ⟨LB,Lw⟩:∃X,L1++fg (n+1) 536870911 rs gs=X:=⟨_,rfl⟩
 have Es:Hid (L++(aY n [⟨#[109,101,115,115,97,103,101,32]⟩++nm++⟨#[32,123]⟩]++(fg (n+1) 536870911 rs gs++(cl fs).flatMap (dH (n+1) os)++(ms.flatMap (fun m=>ct (n+1) aL m.nm (ck f (n+1+1) m))++es.flatMap (jO (n+1))))++aY n [⟨#[125]⟩])=(LB++(cl fs).flatMap (dH (n+1) os)++ms.flatMap (fun m=>ct (n+1) aL m.nm (ck f (n+1+1) m))++es.flatMap (jO (n+1)))++aY n [⟨#[125]⟩]):=by show _=_;rw[←Lw,←Lx];simp
 have yZ:L1.length=L.length+(2*n+(nm.size+10)+1):=by
  rw[←Lx,zK,dU,ByteArray.size_append,ByteArray.size_append]
  have:(⟨#[109,101,115,115,97,103,101,32]⟩:ByteArray).size=8:=rfl
  have:(⟨#[32,123]⟩:ByteArray).size=2:=rfl
  omega
 have TM:LB.length=L1.length+(fg (n+1) 536870911 rs gs).length:=by rw[←Lw,zK]
 have MY:Hid (L1.length+(fg (n+1) 536870911 rs gs).length≤1099511627776):=by show _≤_;omega
 have HL:Hid (LB.length+((cl fs).flatMap (dH (n+1) os)).length+(ms.flatMap (fun m=>ct (n+1) aL m.nm (ck f (n+1+1) m))).length+(es.flatMap (jO (n+1))).length+(2*n+2)≤1099511627776):=by show _≤_;omega
 have Ut:=al Lw
 have DV:n≤400∨True:=.inr trivial
 clear DV lf lo lm le hl Ln hE yx hG Lx Lw h bG k0 yZ TM P2 ID Zo Zq ZB Zy ZA Zz ZC ih hF hV
 go_enter Tryz.func28,Tryz.ntmps28
 go_wp2_with fail
 refine (ab HG).mono ?_
 rintro e w1 ⟨rfl,yx,mf⟩
 have sF:=al (mf _ _ _ _ (ab zf) (ab kA) (by decide))
 have iO:=al ((ab F1).trans mf)
 obtain ⟨u1,yx⟩:=yx
 have sG:=al (ab Qz w1 L1 u1 yx (ab MY))
 rw[ab Ut] at sG
 push_cast at sG
 clear yx mf HG F1 kA Qz c0 c1 c2 c3 c4 c5 c6 z1
 obtain ⟨c0,c1,c2,c3,c4,c5,c6⟩:=dK (ab sF)
 go_wp2_with fail
 refine (ab sG).mono ?_
 rintro e w2 ⟨rfl,l8,lZ⟩
 have sI:=al (lZ _ _ _ _ (ab zf) (ab sF) (by decide))
 have zi:=al ((ab iO).trans lZ)
 have pH:=al l8
 clear l8 lZ sG sF iO c0 c1 c2 c3 c4 c5 c6
 go_wp2
 go_loopg [6,7] fs.length (fun gk v6 _ wr=>∃(i:Nat),v6=.int .i64 (i:Int)∧gk=fs.length-i∧i≤fs.length∧Hid (∃v,Pg W pg (LB++eg (n+1) os fs i) v wr)∧Hid (Kp pg w wr)∧Hid (wr.heap[w.heap.size]?=some (.cells #[.string nm,.slice af fs.length cf,.slice ao os.length co,.slice am ms.length dk,.slice ae es.length dc,.slice ar rs.length cr,.slice ag gs.length cg] 46 (0,0))))
 case atStart=>exact ⟨0,rfl,rfl,by omega,by show ∃_,_;rw[Xe,List.append_nil];exact ab pH,zi,sI⟩
 case round =>
  obtain ⟨i,rfl,aW,eV,HP,HK,HB⟩:=hrel
  have bz:=al aW
  clear aW pH zi sI
  obtain ⟨c0,c1,c2,c3,c4,c5,c6⟩:=dK (ab HB)
  by_cases aM:i<fs.length
  ·have aT:Below W.heap.size W wr:=by obtain ⟨_,h⟩:=ab HP;exact h.bU
   obtain ⟨g,o,rfl,hg,hc⟩:=ab Py (by omega)
   have hl:=List.getElem?_eq_getElem aM
   obtain ⟨d,hd⟩:∃d,fs[i]=d:=⟨_,rfl⟩
   rw[hd] at hl
   obtain ⟨aQ,key,ty,xk,num,aE⟩:=d
   have x0:=(aT.cell (p:=⟨g,o+(i*6+0),none⟩) hg).trans (hc _ _ ((cC hl (j:=0) (by decide)).trans rfl))
   have x1:=(aT.cell (p:=⟨g,o+(i*6+1),none⟩) hg).trans (hc _ _ ((cC hl (j:=1) (by decide)).trans rfl))
   have x2:=(aT.cell (p:=⟨g,o+(i*6+2),none⟩) hg).trans (hc _ _ ((cC hl (j:=2) (by decide)).trans rfl))
   have x3:=(aT.cell (p:=⟨g,o+(i*6+3),none⟩) hg).trans (hc _ _ ((cC hl (j:=3) (by decide)).trans rfl))
   have x4:=(aT.cell (p:=⟨g,o+(i*6+4),none⟩) hg).trans (hc _ _ ((cC hl (j:=4) (by decide)).trans rfl))
   have x5:=(aT.cell (p:=⟨g,o+(i*6+5),none⟩) hg).trans (hc _ _ ((cC hl (j:=5) (by decide)).trans rfl))
   rw[Nat.add_zero] at x0
   rw[←Nat.add_assoc] at x1 x2 x3 x4 x5
   have Hcc:=al hc
   clear hc hd
   have oq:=ab HOf _ (List.mem_of_getElem? hl)
   have Oc:=ab Hfz _ (List.mem_of_getElem? hl)
   simp only at oq Oc
   have i0:(0:Int)≤(i:Int):=zH _
   have i1:(i:Int)<(fs.length:Int):=by omega
   have bu:=al aM
   have kn:=aJ wr (.cells #[.int .i64 aQ,.string key,.string ty,.string xk,.int .i64 num,.int .i64 aE] 42)
   have bn:Below wr.heap.size wr (wr.alloc (.cells #[.int .i64 aQ,.string key,.string ty,.string xk,.int .i64 num,.int .i64 aE] 42)):=(zE _ _).alloc (zD _) _
   obtain ⟨U,hU⟩:∃U,wr.alloc (.cells #[.int .i64 aQ,.string key,.string ty,.string xk,.int .i64 num,.int .i64 aE] 42)=U:=⟨_,rfl⟩
   rw[hU] at kn bn
   obtain ⟨bf,ZY⟩:∃b,wr.heap.size=b:=⟨_,rfl⟩
   have Hbf:Hid (bf≠pg):=by
    obtain ⟨_,h⟩:=ab HP
    show bf≠pg
    intro e
    have:=(zA h.dt).1
    omega
   have Pp:Hid (∃v,Pg W pg (LB++eg (n+1) os fs i) v U):=by obtain ⟨u2,h⟩:=ab HP;exact ⟨u2,h.below bn⟩
   have Uu:=al ((ab HK).trans (Kp.below (b:=pg) bn))
   have QG:=al ((bn.block _ (zA (ab HB)).1).trans (ab HB))
   have Ux:=al kn
   have HbU:Hid (Below W.heap.size W U):=aT.trans (bn.mono aT.size)
   rw[ZY] at Ux
   obtain ⟨y0,y1,y2,y3,y4,y5⟩:=et kn
   rw[ZY] at y0 y1 y2 y3 y4 y5
   obtain ⟨c0,c1,c2,c3,c4,c5,c6⟩:=dK (ab QG)
   have Qy:=al (fun w'=>BZ w' (⟨aQ,key,ty,xk,num,aE⟩:Fd) oq.1.1 oq.1.2.1 oq.1.2.2 Oc)
   unfold Fd.cs at Qy
   simp only at Qy
   clear kn bn aT HP HK HB aM Oc
   by_cases z:aE=0
   ·have HEz:=al (yF (n:=n+1) (os:=os) hl z)
    have Px:Hid ((LB++eg (n+1) os fs i).length+2*(n+1)+(jU (⟨aQ,key,ty,xk,num,aE⟩:Fd)).size+1≤1099511627776):=by
     have h1:=ML (n+1) os fs (fs.length-(i+1)) (i+1) (by omega)
     rw[show i+1+(fs.length-(i+1))=fs.length by omega,C3,yF (n:=n+1) (os:=os) hl z,zK,←j4,dU] at h1
     have h2:=ab HL
     show _≤_
     rw[zK]
     omega
    have e0:(aE==0)=true:=beq_iff_eq.2 z
    have HG:Hid (∀w2,Below U.heap.size U w2→Calls Tryz.prog 26 #[.pointer (some ⟨pg,0,none⟩),.int .i64 ((n:Int)+1),.string (jU (⟨aQ,key,ty,xk,num,aE⟩:Fd))] w2 (LZ W pg (LB++eg (n+1) os fs i++bT (n+1) (⟨aQ,key,ty,xk,num,aE⟩:Fd)) w2)):=by
     intro w2 hb
     obtain ⟨u2,l8⟩:=ab Pp
     have hG:=dj (l8.below hb) (n+1) (jU (⟨aQ,key,ty,xk,num,aE⟩:Fd)) (by omega) (ab Px)
     rw[j4] at hG
     push_cast at hG
     exact hG
    clear hl z
    go_wp2_with fail
    refine (ab Qy _).mono ?_
    rintro e w2 ⟨rfl,bd⟩
    have F4:=al (ab HG w2 bd)
    have fI:=al ((ab Uu).trans (Kp.below (b:=pg) bd))
    have cS:=al ((bd.block _ (zA (ab QG)).1).trans (ab QG))
    clear bd HG Qy
    go_wp2_with fail
    refine (ab F4).mono ?_
    rintro e w3 ⟨rfl,J',nK⟩
    have zg:Hid (∃v,Pg W pg (LB++eg (n+1) os fs (i+1)) v w3):=by show ∃_,_;rw[ab HEz,←List.append_assoc];exact J'
    have zj:=al ((ab fI).trans nK)
    have Dg:=al (nK _ _ _ _ (ab zf) (ab cS) (by decide))
    clear J' nK F4 fI cS
    go_wp2
    go_roundg (fs.length-(i+1))
    case measure=>have:=ab bz;have:=ab bu;omega
    case rel=>exact ⟨i+1,by go_num,rfl,ab bu,zg,zj,Dg⟩
   ·have e0:(aE==0)=false:=beq_eq_false_iff_ne.2 z
    have NW:=(oq.2 z)
    obtain ⟨k,hk⟩:∃k:Nat,aE.toNat-1=k:=⟨_,rfl⟩
    have Iv:os[k]?=some os[k]:=List.getElem?_eq_getElem (by omega)
    obtain ⟨J2,RT⟩:∃x,os[k]=x:=⟨_,rfl⟩
    rw[RT] at Iv
    have Bz:os.getD (aE.toNat-1) ⟨#[]⟩=J2:=by rw[hk,List.getD_eq_getElem?_getD,Iv];rfl
    have zo:J2.size≤255:=ab O' J2 (List.mem_of_getElem? Iv)
    obtain ⟨go',oo,Wt,hgo,ZX⟩:=ab Pv (by omega)
    have q1:IntKind.i64.wrap (aE-1)=(k:Int):=by rw[IntKind.wrap_i64];omega
    have q2:aE-1=(k:Int):=by omega
    have Zd:(0:Int)≤(k:Int):=zH _
    have sS:(k:Int)<(os.length:Int):=by omega
    have xo:=((ab HbU).cell (p:=⟨go',oo+k,none⟩) hgo).trans (ZX _ _ (dT Iv))
    obtain ⟨HX,T2⟩:∃X,(if fh fs i≠aE then aY (n+1) [ia,⟨#[32]⟩,J2,⟨#[32,123]⟩] else [])=X:=⟨_,rfl⟩
    obtain ⟨CX,T3⟩:∃X,(if (fs[i+1]?).map Fd.aE≠some aE then aY (n+1) [⟨#[125]⟩] else [])=X:=⟨_,rfl⟩
    have Sj:=Ja (n:=n+1) (os:=os) hl z
    simp only at Sj
    rw[Bz,T2,T3] at Sj
    have M4:Hid (LB++eg (n+1) os fs (i+1)=LB++eg (n+1) os fs i++HX++bT (n+1+1) (⟨aQ,key,ty,xk,num,aE⟩:Fd)++CX):=by show _=_;rw[Sj];simp
    obtain ⟨OP,Lu⟩:∃b,decide (fh fs i≠aE)=b:=⟨_,rfl⟩
    obtain ⟨fin,Lr⟩:∃b,decide ((fs[i+1]?).map Fd.aE≠some aE)=b:=⟨_,rfl⟩
    have HXt:Hid (OP=true→HX=aY (n+1) [ia,⟨#[32]⟩,J2,⟨#[32,123]⟩]):=fun h=>by rw[←T2,if_pos (of_decide_eq_true (Lu.trans h))]
    have HXf:Hid (OP=false→HX=[]):=fun h=>by rw[←T2,if_neg (of_decide_eq_false (Lu.trans h))]
    have HCt:Hid (fin=true→CX=aY (n+1) [⟨#[125]⟩]):=fun h=>by rw[←T3,if_pos (of_decide_eq_true (Lr.trans h))]
    have TC:Hid (fin=false→CX=[]):=fun h=>by rw[←T3,if_neg (of_decide_eq_false (Lr.trans h))]
    have Pd:=al Lu
    have Pc:=al Lr
    clear Lu Lr
    have Px:Hid ((LB++eg (n+1) os fs i++HX).length+(2*(n+1+1)+(jU (⟨aQ,key,ty,xk,num,aE⟩:Fd)).size+1)+CX.length≤1099511627776):=by
     have h1:=ML (n+1) os fs (fs.length-(i+1)) (i+1) (by omega)
     rw[show i+1+(fs.length-(i+1))=fs.length by omega,C3,Sj,zK,zK,zK,←j4,dU] at h1
     have h2:=ab HL
     show _≤_
     rw[zK,zK]
     omega
    have pI:Hid (HX=aY (n+1) [ia,⟨#[32]⟩,J2,⟨#[32,123]⟩]→∀q,Calls Tryz.prog 26 #[.pointer (some ⟨pg,0,none⟩),.int .i64 ((n:Int)+1),.string (⟨#[111,110,101,111,102,32]⟩++J2++⟨#[32,123]⟩)] (U.drewN q) (LZ W pg (LB++eg (n+1) os fs i++HX) (U.drewN q))):=by
     intro hh q
     obtain ⟨u2,l8⟩:=ab Pp
     have h2:=ab Px
     rw[zK,hh,←sR,dU] at h2
     have hG:=dj (l8.below (below_drewN (zE U.heap.size U) q)) (n+1) (ia++⟨#[32]⟩++J2++⟨#[32,123]⟩) (by omega) (by omega)
     rw[sR,←hh] at hG
     push_cast at hG
     exact hG
    have zh:((⟨#[111,110,101,111,102,32]⟩:ByteArray)++J2).size≤300:=by rw[ByteArray.size_append];have:(⟨#[111,110,101,111,102,32]⟩:ByteArray).size=6:=rfl;omega
    subst Wt
    have Hz:=al z
    clear hl NW hk Iv RT Bz T2 T3 Sj ZX oq
    go_upto_region 9 with fail
    go_cut [59] (fun v59 wx=>v59=.bool OP∧∃q,wx=U.drewN q)
    case first =>
     by_cases TS:i=0
     ·have f0:((i:Int)==0)=true:=beq_iff_eq.2 (by omega)
      have vM:Hid (OP=true):=(by show _=_;rw[←ab Pd,TS];exact decide_eq_true (fun e=>ab Hz e.symm))
      clear TS
      go_quiet (fail)
      go_wp2_with fail
      go_meet
      exact ⟨by rw[ab vM],_,rfl⟩
     ·obtain ⟨j,hj⟩:∃j:Nat,i-1=j:=⟨_,rfl⟩
      have J7:fs[j]?=some fs[j]:=List.getElem?_eq_getElem (by omega)
      obtain ⟨pv,Wn⟩:∃p,fs[j].aE=p:=⟨_,rfl⟩
      have Hpo:Hid (fh fs i=pv):=by show _=_;obtain rfl:i=j+1:=(by omega);unfold fh;simp only;rw[J7];exact Wn
      have xp:=((ab HbU).cell (p:=⟨g,o+(j*6+5),none⟩) hg).trans (ab Hcc _ _ ((cC J7 (j:=5) (by decide)).trans rfl))
      rw[←Nat.add_assoc,Wn] at xp
      have f0:((i:Int)==0)=false:=beq_eq_false_iff_ne.2 (by omega)
      have q3:IntKind.i64.wrap ((i:Int)-1)=(j:Int):=by rw[IntKind.wrap_i64];omega
      have q4:wrap64 ((i:Int)-1)=(j:Int):=by unfold wrap64;omega
      have q5:(i:Int)-1=(j:Int):=by omega
      have j0:(0:Int)≤(j:Int):=zH _
      have j1:(j:Int)<(fs.length:Int):=by omega
      have Hj:=al hj
      clear hj J7 Wn TS
      by_cases Fb:pv=aE
      ·have f1:(pv != aE)=false:=by simpa using Fb
       have f2:(pv==aE)=true:=beq_iff_eq.2 Fb
       have vM:Hid (OP=false):=(by show _=_;rw[←ab Pd,ab Hpo];exact decide_eq_false (fun k=>k Fb))
       clear Fb
       go_quiet (fail)
       go_wp2_with fail
       go_meet
       exact ⟨by rw[ab vM],_,rfl⟩
      ·have f1:(pv != aE)=true:=by simpa using Fb
       have f2:(pv==aE)=false:=beq_eq_false_iff_ne.2 Fb
       have vM:Hid (OP=true):=(by show _=_;rw[←ab Pd,ab Hpo];exact decide_eq_true Fb)
       clear Fb
       go_quiet (fail)
       go_wp2_with fail
       go_meet
       exact ⟨by rw[ab vM],_,rfl⟩
    case rest =>
     obtain ⟨rfl,q9,rfl⟩:=hcut
     go_upto_if 59 with fail
     go_cut [59] (fun _ wx=>Hid (∃v,Pg W pg (LB++eg (n+1) os fs i++HX) v wx)∧Hid (Kp pg w wx)∧Hid (wx.heap[w.heap.size]?=some (.cells #[.string nm,.slice (some ⟨g,o,none⟩) fs.length cf,.slice (some ⟨go',oo,none⟩) os.length co,.slice am ms.length dk,.slice ae es.length dc,.slice ar rs.length cr,.slice ag gs.length cg] 46 (0,0)))∧Hid (wx.heap[bf]?=some (.cells #[.int .i64 aQ,.string key,.string ty,.string xk,.int .i64 num,.int .i64 aE] 42 (0,0))))
     case first =>
      cases OP with
      |true =>
       have JR:Hid (HX=aY (n+1) [ia,⟨#[32]⟩,J2,⟨#[32,123]⟩]):=ab HXt rfl
       have TA:=al (ab pI (ab JR))
       go_wp2_with fail
       refine (ab TA _).mono ?_
       rintro e w5 ⟨rfl,sV,jN⟩
       have ma:=al sV
       have sH:=al (((ab Uu).trans (Kp.below (b:=pg) (below_drewN (zE U.heap.size U) _))).trans jN)
       have vN:=al (jN _ _ _ _ (ab zf) (show (U.drewN _).heap[w.heap.size]?=_ from ab QG) (by decide))
       have HF5:=al (jN _ _ _ _ (ab Hbf) (show (U.drewN _).heap[bf]?=_ from ab Ux) (by decide))
       clear sV jN TA
       go_wp2_with fail
       go_meet
       exact ⟨ma,sH,vN,HF5⟩
      |false =>
       have JR:Hid (HX=[]):=ab HXf rfl
       go_wp2_with fail
       go_meet
       exact ⟨by show ∃_,_;rw[ab JR,List.append_nil];obtain ⟨u2,l8⟩:=ab Pp;exact ⟨u2,l8.below (below_drewN (zE U.heap.size U) _)⟩,(ab Uu).trans (Kp.below (b:=pg) (below_drewN (zE U.heap.size U) _)),ab QG,ab Ux⟩
     case rest =>
      obtain ⟨Th,Ts,UB,Uy⟩:=hcut
      clear y0 y1 y2 y3 y4 y5 c0 c1 c2 c3 c4 c5 c6 pI Pp Uu QG Ux xo x0 x1 x2 x3 x4 x5
      obtain ⟨c0,c1,c2,c3,c4,c5,c6⟩:=dK (ab UB)
      obtain ⟨y0,y1,y2,y3,y4,y5⟩:=et (ab Uy)
      have F4:Hid (∀w2,Below wc.heap.size wc w2→Calls Tryz.prog 26 #[.pointer (some ⟨pg,0,none⟩),.int .i64 ((n:Int)+2),.string (jU (⟨aQ,key,ty,xk,num,aE⟩:Fd))] w2 (LZ W pg (LB++eg (n+1) os fs i++HX++bT (n+1+1) (⟨aQ,key,ty,xk,num,aE⟩:Fd)) w2)):=by
       intro w2 hb
       obtain ⟨u2,l8⟩:=ab Th
       have hG:=dj (l8.below hb) (n+1+1) (jU (⟨aQ,key,ty,xk,num,aE⟩:Fd)) (by omega) (by have:=ab Px;omega)
       rw[j4] at hG
       have ee:(((n+1+1:Nat)):Int)=(n:Int)+2:=by omega
       rw[ee] at hG
       exact hG
      go_wp2_with fail
      refine (ab Qy _).mono ?_
      rintro e w2 ⟨rfl,bd⟩
      have TA:=al (ab F4 w2 bd)
      have fI:=al ((ab Ts).trans (Kp.below (b:=pg) bd))
      have cS:=al ((bd.block _ (zA (ab UB)).1).trans (ab UB))
      have HF2:=al ((bd.block _ (zA (ab Uy)).1).trans (ab Uy))
      clear bd F4 Qy Th Ts UB Uy y0 y1 y2 y3 y4 y5 c0 c1 c2 c3 c4 c5 c6
      go_wp2_with fail
      refine (ab TA).mono ?_
      rintro e w3 ⟨rfl,J',nK⟩
      have pD:=al J'
      have na:=al ((ab fI).trans nK)
      have eh:=al (nK _ _ _ _ (ab zf) (ab cS) (by decide))
      have YA:=al (nK _ _ _ _ (ab Hbf) (ab HF2) (by decide))
      have Uo:Hid (Below W.heap.size W w3):=by obtain ⟨_,h⟩:=J';exact h.bU
      clear J' nK TA fI cS HF2
      obtain ⟨c0,c1,c2,c3,c4,c5,c6⟩:=dK (ab eh)
      obtain ⟨y0,y1,y2,y3,y4,y5⟩:=et (ab YA)
      have Yz:Hid (CX=aY (n+1) [⟨#[125]⟩]→∀q,Calls Tryz.prog 26 #[.pointer (some ⟨pg,0,none⟩),.int .i64 ((n:Int)+1),.string ⟨#[125]⟩] (w3.drewN q) (LZ W pg (LB++eg (n+1) os fs i++HX++bT (n+1+1) (⟨aQ,key,ty,xk,num,aE⟩:Fd)++CX) (w3.drewN q))):=by
       intro hh q
       obtain ⟨u2,l8⟩:=ab pD
       have h2:=ab Px
       rw[hh,dU] at h2
       have h3:(bT (n+1+1) (⟨aQ,key,ty,xk,num,aE⟩:Fd)).length=2*(n+1+1)+(jU (⟨aQ,key,ty,xk,num,aE⟩:Fd)).size+1:=by rw[←j4,dU]
       have hG:=dj (l8.below (below_drewN (zE w3.heap.size w3) q)) (n+1) ⟨#[125]⟩ (by omega) (by rw[zK];omega)
       rw[←hh] at hG
       push_cast at hG
       exact hG
      go_upto_region 12 with fail
      go_cut [96] (fun v96 wx=>v96=.bool fin∧∃q,wx=w3.drewN q)
      case first =>
       by_cases ZI:i+1=fs.length
       ·have f0:((i:Int)==(fs.length:Int)-1)=true:=beq_iff_eq.2 (by omega)
        have q5:(fs.length:Int)-1=(i:Int):=by omega
        have q6:IntKind.i64.wrap ((fs.length:Int)-1)=(i:Int):=by rw[IntKind.wrap_i64];omega
        have vM:Hid (fin=true):=(by show _=_;rw[←ab Pc,List.getElem?_eq_none (by omega)];exact decide_eq_true (fun e=>by cases e))
        clear ZI
        go_quiet (fail)
        go_wp2_with fail
        go_meet
        exact ⟨by rw[ab vM],_,rfl⟩
       ·obtain ⟨j,hj⟩:∃j:Nat,i+1=j:=⟨_,rfl⟩
        have J7:fs[j]?=some fs[j]:=List.getElem?_eq_getElem (by have:=ab bu;omega)
        obtain ⟨nx,nJ⟩:∃p,fs[j].aE=p:=⟨_,rfl⟩
        have FT:Hid ((fs[i+1]?).map Fd.aE=some nx):=by show _=_;rw[hj,J7];exact congrArg some nJ
        have xn:=((ab Uo).cell (p:=⟨g,o+(j*6+5),none⟩) hg).trans (ab Hcc _ _ ((cC J7 (j:=5) (by decide)).trans rfl))
        rw[←Nat.add_assoc,nJ] at xn
        obtain ⟨K,hK⟩:∃K:Nat,fs.length-1=K:=⟨_,rfl⟩
        have f0:((i:Int)==(K:Int))=false:=beq_eq_false_iff_ne.2 (by omega)
        have l1:IntKind.i64.wrap ((fs.length:Int)-1)=(K:Int):=by rw[IntKind.wrap_i64];omega
        have l2:(fs.length:Int)-1=(K:Int):=by omega
        have q3:IntKind.i64.wrap ((i:Int)+1)=(j:Int):=by rw[IntKind.wrap_i64];omega
        have j0:(0:Int)≤(j:Int):=zH _
        have j1:(j:Int)<(fs.length:Int):=by have:=ab bu;omega
        have Hj:=al hj
        clear hj J7 nJ ZI hK
        by_cases Gb:nx=aE
        ·have f1:(nx != aE)=false:=by simpa using Gb
         have f2:(nx==aE)=true:=beq_iff_eq.2 Gb
         have vM:Hid (fin=false):=(by show _=_;rw[←ab Pc,ab FT,Gb];exact decide_eq_false (fun k=>k rfl))
         clear Gb
         go_quiet (fail)
         go_wp2_with fail
         go_meet
         exact ⟨by rw[ab vM],_,rfl⟩
        ·have f1:(nx != aE)=true:=by simpa using Gb
         have f2:(nx==aE)=false:=beq_eq_false_iff_ne.2 Gb
         have vM:Hid (fin=true):=(by show _=_;rw[←ab Pc,ab FT];exact decide_eq_true (fun e=>Gb (zC e)))
         clear Gb
         go_quiet (fail)
         go_wp2_with fail
         go_meet
         exact ⟨by rw[ab vM],_,rfl⟩
      case rest =>
       obtain ⟨rfl,VD,rfl⟩:=hcut
       cases fin with
       |true =>
        have JR:Hid (CX=aY (n+1) [⟨#[125]⟩]):=ab HCt rfl
        have HG4:=al (ab Yz (ab JR))
        go_wp2_with fail
        refine (ab HG4 _).mono ?_
        rintro e w6 ⟨rfl,Z7,P5⟩
        have Yl:Hid (∃v,Pg W pg (LB++eg (n+1) os fs (i+1)) v w6):=by show ∃_,_;rw[ab M4];exact Z7
        have Yx:=al (((ab na).trans (Kp.below (b:=pg) (below_drewN (zE w3.heap.size w3) _))).trans P5)
        have Km:=al (P5 _ _ _ _ (ab zf) (show (w3.drewN _).heap[w.heap.size]?=_ from ab eh) (by decide))
        clear Z7 P5 HG4 y0 y1 y2 y3 y4 y5 c0 c1 c2 c3 c4 c5 c6 Yz pD na eh YA
        go_wp2
        go_roundg (fs.length-(i+1))
        case measure=>have:=ab bz;have:=ab bu;omega
        case rel=>exact ⟨i+1,by go_num,rfl,ab bu,Yl,Yx,Km⟩
       |false =>
        have JR:Hid (CX=[]):=ab TC rfl
        have Yl:Hid (∃v,Pg W pg (LB++eg (n+1) os fs (i+1)) v (w3.drewN VD)):=by show ∃_,_;rw[ab M4,ab JR,List.append_nil];obtain ⟨u2,l8⟩:=ab pD;exact ⟨u2,l8.below (below_drewN (zE w3.heap.size w3) _)⟩
        have Yx:=al ((ab na).trans (Kp.below (b:=pg) (below_drewN (zE w3.heap.size w3) VD)))
        have Km:=al (show (w3.drewN VD).heap[w.heap.size]?=_ from ab eh)
        clear y0 y1 y2 y3 y4 y5 c0 c1 c2 c3 c4 c5 c6 Yz pD na eh YA
        go_wp2
        go_roundg (fs.length-(i+1))
        case measure=>have:=ab bz;have:=ab bu;omega
        case rel=>exact ⟨i+1,by go_num,rfl,ab bu,Yl,Yx,Km⟩
  ·obtain rfl:i=fs.length:=by omega
   have pH:=al (ab HP)
   rw[C3] at pH
   have zi:=HK
   have sI:=HB
   clear HP HK HB
   obtain ⟨wo2,V4⟩:∃x,x=wr:=⟨_,rfl⟩
   subst V4
   go_wp2
   go_loopg [8] ms.length (fun gk v8 wr=>∃(i:Nat),v8=.int .i64 (i:Int)∧gk=ms.length-i∧i≤ms.length∧Hid (∃v,Pg W pg ((LB++(cl fs).flatMap (dH (n+1) os))++(ms.take i).flatMap (fun m=>ct (n+1) aL m.nm (ck f (n+1+1) m))) v wr)∧Hid (Kp pg w wr)∧Hid (wr.heap[w.heap.size]?=some (.cells #[.string nm,.slice af fs.length cf,.slice ao os.length co,.slice am ms.length dk,.slice ae es.length dc,.slice ar rs.length cr,.slice ag gs.length cg] 46 (0,0))))
   case atStart=>exact ⟨0,rfl,rfl,by omega,by show ∃_,_;rw[List.take_zero,List.flatMap_nil,List.append_nil];exact ab pH,zi,sI⟩
   case round =>
    obtain ⟨i,rfl,aW,eV,HP,HK,HB⟩:=hrel
    have bz:=al aW
    clear aW pH zi sI
    obtain ⟨c0,c1,c2,c3,c4,c5,c6⟩:=dK (ab HB)
    by_cases aM:i<ms.length
    ·obtain ⟨up,yw⟩:=ab HP
     have aT:Below W.heap.size W wr:=yw.bU
     obtain ⟨g,o,rfl,hg,hc⟩:=ab wz (by omega)
     have hl:=List.getElem?_eq_getElem aM
     obtain ⟨t,ht⟩:∃d,ms[i]=d:=⟨_,rfl⟩
     rw[ht] at hl
     obtain ⟨M',M9,PI,Na,BG,BJ,xZ,D6,DI,rh,xu,DB,D4,Je,Kb,dV,fX⟩:=(ab wG).at i t hl
     have gY:=al fX
     obtain ⟨FN,FG,rfl,-,-⟩:=fX.hf
     obtain ⟨Eh,Ee,rfl,-,-⟩:=fX.ho
     obtain ⟨Ba,mD,rfl,-,-⟩:=fX.hm
     obtain ⟨FO,qj,rfl,-,-⟩:=fX.he
     obtain ⟨ry,rp,rfl,-,-⟩:=fX.hr
     obtain ⟨rz,ru,rfl,-,-⟩:=fX.hg
     have key:∀(j:Nat) (x:Value),[Value.string xZ,.slice FN D6.length FG,.slice Eh DI.length Ee,.slice Ba rh.length mD,.slice FO xu.length qj,.slice ry DB.length rp,.slice rz D4.length ru][j]?=some x→wr.cell? ⟨g,o+(i*7+j),none⟩=some x:=fun j x hx=>(aT.cell (p:=⟨g,o+(i*7+j),none⟩) hg).trans (hc _ _ (by
      rw[←dV,List.getElem?_take,List.getElem?_drop] at hx
      split at hx
      ·exact hx
      ·cases hx))
     have x0:wr.cell? ⟨g,o+i*7,none⟩=_:=key 0 _ rfl
     have x1:wr.cell? ⟨g,o+i*7+1,none⟩=_:=key 1 _ rfl
     have x2:wr.cell? ⟨g,o+i*7+2,none⟩=_:=key 2 _ rfl
     have x3:wr.cell? ⟨g,o+i*7+3,none⟩=_:=key 3 _ rfl
     have x4:wr.cell? ⟨g,o+i*7+4,none⟩=_:=key 4 _ rfl
     have x5:wr.cell? ⟨g,o+i*7+5,none⟩=_:=key 5 _ rfl
     have x6:wr.cell? ⟨g,o+i*7+6,none⟩=_:=key 6 _ rfl
     clear hc ht key dV
     have cJ:=List.mem_of_getElem? hl
     have BA:(LB++(cl fs).flatMap (dH (n+1) os))++(ms.take (i+1)).flatMap (fun m=>ct (n+1) aL m.nm (ck f (n+1+1) m))=(LB++(cl fs).flatMap (dH (n+1) os))++(ms.take i).flatMap (fun m=>ct (n+1) aL m.nm (ck f (n+1+1) m))++ct (n+1) aL t.nm (ck f (n+1+1) t):=by rw[bM hl,List.flatMap_append];simp
     have ku:=fC (fun m=>ct (n+1) aL m.nm (ck f (n+1+1) m)) ms (i+1)
     rw[bM hl,List.flatMap_append,zK,show [t].flatMap (fun m=>ct (n+1) aL m.nm (ck f (n+1+1) m))=ct (n+1) aL t.nm (ck f (n+1+1) t) by simp] at ku
     have qS:((LB++(cl fs).flatMap (dH (n+1) os))++(ms.take i).flatMap (fun m=>ct (n+1) aL m.nm (ck f (n+1+1) m))).length+(ct (n+1) aL t.nm (ck f (n+1+1) t)).length≤1099511627776:=by have:=ab HL;rw[zK];rw[zK];omega
     have CD:t.nm=xZ:=by rw[(ab gY).is];rfl
     rw[CD] at qS BA
     have HC:=al (ab FU W wr pg _ up (n+1) t _ _ _ _ _ _ _ _ _ _ _ _ _ _ _ yw (ab HF) (by omega) (ab gY) (ab Yn t cJ) (ab MW t cJ) qS)
     push_cast at HC
     have tJ:=al BA
     have i0:(0:Int)≤(i:Int):=zH _
     have i1:(i:Int)<(ms.length:Int):=by omega
     have bu:=al aM
     clear hl aT aM gY cJ BA ku qS yw
     go_wp2_with fail
     refine (ab HC).mono ?_
     rintro e w5 ⟨rfl,sV,jN⟩
     have ma:Hid (∃v,Pg W pg ((LB++(cl fs).flatMap (dH (n+1) os))++(ms.take (i+1)).flatMap (fun m=>ct (n+1) aL m.nm (ck f (n+1+1) m))) v w5):=by show ∃_,_;rw[ab tJ];exact sV
     have sH:=al ((ab HK).trans jN)
     have vN:=al (jN _ _ _ _ (ab zf) (ab HB) (by decide))
     clear sV jN HC tJ c0 c1 c2 c3 c4 c5 c6
     go_wp2
     go_roundg (ms.length-(i+1))
     case measure=>have:=ab bz;have:=ab bu;omega
     case rel=>exact ⟨i+1,by go_num,rfl,ab bu,ma,sH,vN⟩
    ·obtain rfl:i=ms.length:=by omega
     have pH:=al (ab HP)
     rw[List.take_length] at pH
     have zi:=HK
     have sI:=HB
     clear HP HK HB
     obtain ⟨wo3,V3⟩:∃x,x=wr:=⟨_,rfl⟩
     subst V3
     go_wp2
     go_loopg [9] es.length (fun gk v9 wr=>∃(i:Nat),v9=.int .i64 (i:Int)∧gk=es.length-i∧i≤es.length∧Hid (∃v,Pg W pg ((LB++(cl fs).flatMap (dH (n+1) os)++ms.flatMap (fun m=>ct (n+1) aL m.nm (ck f (n+1+1) m)))++(es.take i).flatMap (jO (n+1))) v wr)∧Hid (Kp pg w wr)∧Hid (wr.heap[w.heap.size]?=some (.cells #[.string nm,.slice af fs.length cf,.slice ao os.length co,.slice am ms.length dk,.slice ae es.length dc,.slice ar rs.length cr,.slice ag gs.length cg] 46 (0,0))))
     case atStart=>exact ⟨0,rfl,rfl,by omega,by show ∃_,_;rw[List.take_zero,List.flatMap_nil,List.append_nil];exact ab pH,zi,sI⟩
     case round =>
      obtain ⟨i,rfl,aW,eV,HP,HK,HB⟩:=hrel
      have bz:=al aW
      clear aW pH zi sI
      obtain ⟨c0,c1,c2,c3,c4,c5,c6⟩:=dK (ab HB)
      by_cases aM:i<es.length
      ·obtain ⟨up,yw⟩:=ab HP
       have aT:Below W.heap.size W wr:=yw.bU
       obtain ⟨g,o,rfl,hg,hc⟩:=ab wF (by omega)
       have hl:=List.getElem?_eq_getElem aM
       obtain ⟨t,ht⟩:∃d,es[i]=d:=⟨_,rfl⟩
       rw[ht] at hl
       obtain ⟨vv,BG,BJ,dV,rv,rr,rg⟩:=(ab wH).at i t hl
       have gY:=al (And.intro rv (And.intro rr rg))
       obtain ⟨av,cv,rfl,-,-⟩:=rv
       obtain ⟨ry,rp,rfl,-,-⟩:=rr
       obtain ⟨rz,ru,rfl,-,-⟩:=rg
       have key:∀(j:Nat) (x:Value),[Value.string t.name,.slice av t.aR.length cv,.slice ry t.res.length rp,.slice rz t.gone.length ru][j]?=some x→wr.cell? ⟨g,o+(i*4+j),none⟩=some x:=fun j x hx=>(aT.cell (p:=⟨g,o+(i*4+j),none⟩) hg).trans (hc _ _ (by
        rw[←dV,List.getElem?_take,List.getElem?_drop] at hx
        split at hx
        ·exact hx
        ·cases hx))
       have x0:wr.cell? ⟨g,o+i*4,none⟩=_:=key 0 _ rfl
       have x1:wr.cell? ⟨g,o+i*4+1,none⟩=_:=key 1 _ rfl
       have x2:wr.cell? ⟨g,o+i*4+2,none⟩=_:=key 2 _ rfl
       have x3:wr.cell? ⟨g,o+i*4+3,none⟩=_:=key 3 _ rfl
       clear hc ht key dV
       have cJ:=List.mem_of_getElem? hl
       have BA:(LB++(cl fs).flatMap (dH (n+1) os)++ms.flatMap (fun m=>ct (n+1) aL m.nm (ck f (n+1+1) m)))++(es.take (i+1)).flatMap (jO (n+1))=(LB++(cl fs).flatMap (dH (n+1) os)++ms.flatMap (fun m=>ct (n+1) aL m.nm (ck f (n+1+1) m)))++(es.take i).flatMap (jO (n+1))++jO (n+1) t:=by rw[bM hl,List.flatMap_append];simp
       have ku:=fC (jO (n+1)) es (i+1)
       rw[bM hl,List.flatMap_append,zK,show [t].flatMap (jO (n+1))=jO (n+1) t by simp] at ku
       have qS:((LB++(cl fs).flatMap (dH (n+1) os)++ms.flatMap (fun m=>ct (n+1) aL m.nm (ck f (n+1+1) m)))++(es.take i).flatMap (jO (n+1))).length+(jO (n+1) t).length≤1099511627776:=by have:=ab HL;rw[zK];rw[zK,zK];omega
       have Si:=ab X8 t cJ
       have HC:=al (xj yw (ab HF) (n+1) (by omega) (ab gY).1 (ab gY).2.1 (ab gY).2.2 (ab Yo t cJ) Si.1 Si.2 qS)
       push_cast at HC
       have tJ:=al BA
       have i0:(0:Int)≤(i:Int):=zH _
       have i1:(i:Int)<(es.length:Int):=by omega
       have bu:=al aM
       clear hl aT aM gY cJ BA ku qS yw
       go_wp2_with fail
       refine (ab HC).mono ?_
       rintro e w5 ⟨rfl,sV,jN⟩
       have ma:Hid (∃v,Pg W pg ((LB++(cl fs).flatMap (dH (n+1) os)++ms.flatMap (fun m=>ct (n+1) aL m.nm (ck f (n+1+1) m)))++(es.take (i+1)).flatMap (jO (n+1))) v w5):=by show ∃_,_;rw[ab tJ];exact sV
       have sH:=al ((ab HK).trans jN)
       have vN:=al (jN _ _ _ _ (ab zf) (ab HB) (by decide))
       clear sV jN HC tJ c0 c1 c2 c3 c4 c5 c6
       go_wp2
       go_roundg (es.length-(i+1))
       case measure=>have:=ab bz;have:=ab bu;omega
       case rel=>exact ⟨i+1,by go_num,rfl,ab bu,ma,sH,vN⟩
      ·obtain rfl:i=es.length:=by omega
       have pH:=al (ab HP)
       rw[List.take_length] at pH
       have zi:=HK
       have sI:=HB
       clear HP HK HB
       obtain ⟨wo4,V2⟩:∃x,x=wr:=⟨_,rfl⟩
       subst V2
       obtain ⟨PK,Z6⟩:=ab pH
       have HG:=al (dj Z6 n ⟨#[125]⟩ (by omega) (by have:=ab HL;rw[zK,zK,zK];have:(⟨#[125]⟩:ByteArray).size=1:=rfl;omega))
       clear Z6
       go_wp2_with fail
       refine (ab HG).mono ?_
       rintro e w9 ⟨rfl,vH,ZL⟩
       have HP9:=al vH
       have Uv:=al ((ab zi).trans ZL)
       clear vH ZL HG
       go_wp2
       go_end0
       exact ⟨rfl,by rw[ab Es];exact ab HP9,ab Uv⟩
theorem pb:∀f,YI f
 |0=>by
  intro W w pg L v n m vf vo vm ve vr vg nm fs os ms es rs gs cm ce _ _ _ _ h
  exact h.elim
 |f+1=>wj (pb f)
end Go.Proofs.YtichhjfjcinjgaaGreatDoor

import Derived.Test.YtichhjfjcinjgaaGreatDoorM44
set_option maxHeartbeats 16000000
set_option maxRecDepth 100000
namespace Go.Proofs.YtichhjfjcinjgaaGreatDoor
open Go.RowKit
attribute [local go_sem ↓] Go.wp_at_zero Go.wp_at_succ
def Yi (f:Nat):Prop:=∀(W w:World) (pg:Nat) (L:List Nat) (v:Value) (n:Nat) (m:Ms) vf vo vm ve vr vg nm fs os ms es rs gs cm ce,Pg W pg L v w→iG W→n+1+f≤490→Lw W m vf vo vm ve vr vg nm fs os ms es rs gs cm ce→JH f m→OC f m→L.length+(cn n aL nm (cj f (n+1) m)).length≤1099511627776 →
 Calls Tryz.prog 28 #[.pointer (some ⟨pg,0,none⟩),.int .i64 (n:Int),.agg #[.string nm,vf,vo,vm,ve,vr,vg]] w (Lv W pg (L++cn n aL nm (cj f (n+1) m)) w)
theorem vJ {f:Nat} (ih:Yi f):Yi (f+1):=by
 intro W w pg L v n m vf vo vm ve vr vg nm fs os ms es rs gs cm ce h hF hn hV ho Ri hl
 have et:=hV.is
 subst et
 obtain ⟨-,Zd,Za,Zc,Zb,Ze⟩:=ho
 obtain ⟨H5,YV,YX⟩:=Ri
 have PA:=H5
 unfold tL at PA
 simp only[Bool.and_eq_true] at PA
 have zn:nm.size≤255:=dE PA.1.1.1.1.1
 have OI:Hid (∀s ∈ os,s.size≤255):=fun s hs=>dE (List.all_eq_true.1 PA.1.1.1.1.2 s hs)
 have Hfz:Hid (∀d ∈ fs,d.name.size≤255):=fun d hd=>(uz (List.all_eq_true.1 PA.1.1.1.2 d hd)).2
 have Xy:Hid (∀e ∈ es,e.name.size≤255∧∀v ∈ e.aQ,v.1.size≤255):=fun e he=>by
  have h1:=YX e he
  unfold bc at h1
  simp only[Bool.and_eq_true] at h1
  refine ⟨dE h1.1.1.1.1,fun v hv=>?_⟩
  have h2:=List.all_eq_true.1 h1.1.1.2 v hv
  unfold eB at h2
  simp only[Bool.and_eq_true] at h2
  exact dE h2.1.1.1
 have HOf:=al Zd
 have XQ:=al Zb
 have XR:=al Ze
 have My:=al YV
 have Fm:=al ih
 have HF:=al hF
 have Qa:=al (fun (w':World) (L':List Nat) (u:Value) (hP:Pg W pg L' u w') (NG:L'.length+(fa (n+1) 536870911 rs gs).length≤1099511627776)=>Aw hP hF (n+1) (by omega) hV.hr hV.hg Za Zc NG)
 have vR:=al hV.fv
 have vQ:=al hV.et
 obtain ⟨af,cf,rfl,Py,lf⟩:=hV.hf
 obtain ⟨ao,co,rfl,nh,lo⟩:=hV.ho
 obtain ⟨am,dh,rfl,H4,lm⟩:=hV.hm
 obtain ⟨ae,da,rfl,iI,le⟩:=hV.he
 obtain ⟨ar,cr,rfl,-,-⟩:=hV.hr
 obtain ⟨ag,cg,rfl,-,-⟩:=hV.hg
 have O3:=al lf
 have OZ:=al lo
 have vO:=al lm
 have vP:=al le
 have k0:=aK w (.cells #[.string nm,.slice af fs.length cf,.slice ao os.length co,.slice am ms.length dh,.slice ae es.length da,.slice ar rs.length cr,.slice ag gs.length cg] 46)
 have bG:Below w.heap.size w (w.alloc (.cells #[.string nm,.slice af fs.length cf,.slice ao os.length co,.slice am ms.length dh,.slice ae es.length da,.slice ar rs.length cr,.slice ag gs.length cg] 46)):=(zE _ _).alloc (zD _) _
 have yD:Hid (w.heap.size≠pg):=fun e=>by have:=(zA h.dq).1;omega
 obtain ⟨V,fR⟩:∃V,w.alloc (.cells #[.string nm,.slice af fs.length cf,.slice ao os.length co,.slice am ms.length dh,.slice ae es.length da,.slice ar rs.length cr,.slice ag gs.length cg] 46)=V:=⟨_,rfl⟩
 rw[fR] at k0 bG
 obtain ⟨c0,c1,c2,c3,c4,c5,c6⟩:=dI k0
 have hE:cn n aL nm (cj (f+1) (n+1) (.mk nm fs os ms es rs gs))=aV n [⟨#[109,101,115,115,97,103,101,32]⟩++nm++⟨#[32,123]⟩]++(fa (n+1) 536870911 rs gs++(ck fs).flatMap (dF (n+1) os)++(ms.flatMap (fun m=>cn (n+1) aL m.nm (cj f (n+1+1) m))++es.flatMap (jB (n+1))))++aV n [⟨#[125]⟩]:=by
  rw[show (⟨#[109,101,115,115,97,103,101,32]⟩:ByteArray)=aL++⟨#[32]⟩ from rfl,su]
  rfl
 rw[hE] at hl ⊢
 have KQ:L.length+(2*n+(nm.size+10)+1)+(fa (n+1) 536870911 rs gs).length+((ck fs).flatMap (dF (n+1) os)).length+(ms.flatMap (fun m=>cn (n+1) aL m.nm (cj f (n+1+1) m))).length+(es.flatMap (jB (n+1))).length+(2*n+2)≤1099511627776:=by
  rw[zK,zK,zK,zK,zK,dT,dT,ByteArray.size_append,ByteArray.size_append] at hl
  have:(⟨#[109,101,115,115,97,103,101,32]⟩:ByteArray).size=8:=rfl
  have:(⟨#[32,123]⟩:ByteArray).size=2:=rfl
  have:(⟨#[125]⟩:ByteArray).size=1:=rfl
  omega
 have xU:=h.below bG
 have hG:=df xU n (⟨#[109,101,115,115,97,103,101,32]⟩++nm++⟨#[32,123]⟩) (by omega) (by rw[ByteArray.size_append,ByteArray.size_append];have:(⟨#[109,101,115,115,97,103,101,32]⟩:ByteArray).size=8:=rfl;have:(⟨#[32,123]⟩:ByteArray).size=2:=rfl;omega)
 have HG:=al hG
 have z1:((⟨#[109,101,115,115,97,103,101,32]⟩:ByteArray)++nm).size≤300:=by rw[ByteArray.size_append];have:(⟨#[109,101,115,115,97,103,101,32]⟩:ByteArray).size=8:=rfl;omega
 have kd:=al k0
 have Ft:Hid (Kp pg w V):=Kp.below bG
 obtain ⟨L1,K7⟩:∃X,L++aV n [⟨#[109,101,115,115,97,103,101,32]⟩++nm++⟨#[32,123]⟩]=X:=⟨_,rfl⟩
 rw[K7] at HG
 obtain ⟨LB,K6⟩:∃X,L1++fa (n+1) 536870911 rs gs=X:=⟨_,rfl⟩
 have DX:Hid (L++(aV n [⟨#[109,101,115,115,97,103,101,32]⟩++nm++⟨#[32,123]⟩]++(fa (n+1) 536870911 rs gs++(ck fs).flatMap (dF (n+1) os)++(ms.flatMap (fun m=>cn (n+1) aL m.nm (cj f (n+1+1) m))++es.flatMap (jB (n+1))))++aV n [⟨#[125]⟩])=(LB++(ck fs).flatMap (dF (n+1) os)++ms.flatMap (fun m=>cn (n+1) aL m.nm (cj f (n+1+1) m))++es.flatMap (jB (n+1)))++aV n [⟨#[125]⟩]):=by show _=_;rw[←K6,←K7];simp
 have yw:L1.length=L.length+(2*n+(nm.size+10)+1):=by
  rw[←K7,zK,dT,ByteArray.size_append,ByteArray.size_append]
  have:(⟨#[109,101,115,115,97,103,101,32]⟩:ByteArray).size=8:=rfl
  have:(⟨#[32,123]⟩:ByteArray).size=2:=rfl
  omega
 have Tm:LB.length=L1.length+(fa (n+1) 536870911 rs gs).length:=by rw[←K6,zK]
 have MA:Hid (L1.length+(fa (n+1) 536870911 rs gs).length≤1099511627776):=by show _≤_;omega
 have HL:Hid (LB.length+((ck fs).flatMap (dF (n+1) os)).length+(ms.flatMap (fun m=>cn (n+1) aL m.nm (cj f (n+1+1) m))).length+(es.flatMap (jB (n+1))).length+(2*n+2)≤1099511627776):=by show _≤_;omega
 have T3:=al K6
 have Du:n≤400∨True:=.inr trivial
 clear Du lf lo lm le hl KQ hE xU hG K7 K6 h bG k0 yw Tm PA H5 YV YX Zd Za Zc Zb Ze ih hF hV
 go_enter Tryz.func28,Tryz.ntmps28
 go_wp2_with fail
 refine (ab HG).mono ?_
 rintro e w1 ⟨rfl,xU,lQ⟩
 have vb:=al (lQ _ _ _ _ (ab yD) (ab kd) (by decide))
 have iH:=al ((ab Ft).trans lQ)
 obtain ⟨u1,xU⟩:=xU
 have se:=al (ab Qa w1 L1 u1 xU (ab MA))
 rw[ab T3] at se
 push_cast at se
 clear xU lQ HG Ft kd Qa c0 c1 c2 c3 c4 c5 c6 z1
 obtain ⟨c0,c1,c2,c3,c4,c5,c6⟩:=dI (ab vb)
 go_wp2_with fail
 refine (ab se).mono ?_
 rintro e w2 ⟨rfl,lK,lI⟩
 have sg:=al (lI _ _ _ _ (ab yD) (ab vb) (by decide))
 have yF:=al ((ab iH).trans lI)
 have ph:=al lK
 clear lK lI se vb iH c0 c1 c2 c3 c4 c5 c6
 go_wp2
 go_loopg [6,7] fs.length (fun gk v6 _ wr=>∃(i:Nat),v6=.int .i64 (i:Int)∧gk=fs.length-i∧i≤fs.length∧Hid (∃v,Pg W pg (LB++eg (n+1) os fs i) v wr)∧Hid (Kp pg w wr)∧Hid (wr.heap[w.heap.size]?=some (.cells #[.string nm,.slice af fs.length cf,.slice ao os.length co,.slice am ms.length dh,.slice ae es.length da,.slice ar rs.length cr,.slice ag gs.length cg] 46 (0,0))))
 case atStart=>exact ⟨0,rfl,rfl,by omega,by show ∃_,_;rw[WI,List.append_nil];exact ab ph,yF,sg⟩
 case round =>
  obtain ⟨i,rfl,aU,eS,HP,HK,HB⟩:=hrel
  have bz:=al aU
  clear aU ph yF sg
  obtain ⟨c0,c1,c2,c3,c4,c5,c6⟩:=dI (ab HB)
  by_cases aM:i<fs.length
  ·have aS:Below W.heap.size W wr:=by obtain ⟨_,h⟩:=ab HP;exact h.bW
   obtain ⟨g,o,rfl,hg,hc⟩:=ab O3 (by omega)
   have hl:=List.getElem?_eq_getElem aM
   obtain ⟨d,hd⟩:∃d,fs[i]=d:=⟨_,rfl⟩
   rw[hd] at hl
   obtain ⟨aP,key,ty,wK,num,aE⟩:=d
   have x0:=(aS.cell (p:=⟨g,o+(i*6+0),none⟩) hg).trans (hc _ _ ((cA hl (j:=0) (by decide)).trans rfl))
   have x1:=(aS.cell (p:=⟨g,o+(i*6+1),none⟩) hg).trans (hc _ _ ((cA hl (j:=1) (by decide)).trans rfl))
   have x2:=(aS.cell (p:=⟨g,o+(i*6+2),none⟩) hg).trans (hc _ _ ((cA hl (j:=2) (by decide)).trans rfl))
   have x3:=(aS.cell (p:=⟨g,o+(i*6+3),none⟩) hg).trans (hc _ _ ((cA hl (j:=3) (by decide)).trans rfl))
   have x4:=(aS.cell (p:=⟨g,o+(i*6+4),none⟩) hg).trans (hc _ _ ((cA hl (j:=4) (by decide)).trans rfl))
   have x5:=(aS.cell (p:=⟨g,o+(i*6+5),none⟩) hg).trans (hc _ _ ((cA hl (j:=5) (by decide)).trans rfl))
   rw[Nat.add_zero] at x0
   rw[←Nat.add_assoc] at x1 x2 x3 x4 x5
   have Hcc:=al hc
   clear hc hd
   have nL:=ab HOf _ (List.mem_of_getElem? hl)
   have NN:=ab Hfz _ (List.mem_of_getElem? hl)
   simp only at nL NN
   have i0:(0:Int)≤(i:Int):=zH _
   have i1:(i:Int)<(fs.length:Int):=by omega
   have bu:=al aM
   have kn:=aK wr (.cells #[.int .i64 aP,.string key,.string ty,.string wK,.int .i64 num,.int .i64 aE] 42)
   have bn:Below wr.heap.size wr (wr.alloc (.cells #[.int .i64 aP,.string key,.string ty,.string wK,.int .i64 num,.int .i64 aE] 42)):=(zE _ _).alloc (zD _) _
   obtain ⟨U,hU⟩:∃U,wr.alloc (.cells #[.int .i64 aP,.string key,.string ty,.string wK,.int .i64 num,.int .i64 aE] 42)=U:=⟨_,rfl⟩
   rw[hU] at kn bn
   obtain ⟨bf,Zz⟩:∃b,wr.heap.size=b:=⟨_,rfl⟩
   have Hbf:Hid (bf≠pg):=by
    obtain ⟨_,h⟩:=ab HP
    show bf≠pg
    intro e
    have:=(zA h.dq).1
    omega
   have OW:Hid (∃v,Pg W pg (LB++eg (n+1) os fs i) v U):=by obtain ⟨u2,h⟩:=ab HP;exact ⟨u2,h.below bn⟩
   have T4:=al ((ab HK).trans (Kp.below (b:=pg) bn))
   have Qi:=al ((bn.block _ (zA (ab HB)).1).trans (ab HB))
   have T7:=al kn
   have HbU:Hid (Below W.heap.size W U):=aS.trans (bn.mono aS.size)
   rw[Zz] at T7
   obtain ⟨y0,y1,y2,y3,y4,y5⟩:=ej kn
   rw[Zz] at y0 y1 y2 y3 y4 y5
   obtain ⟨c0,c1,c2,c3,c4,c5,c6⟩:=dI (ab Qi)
   have P':=al (fun w'=>Bx w' (⟨aP,key,ty,wK,num,aE⟩:Fd) nL.1.1 nL.1.2.1 nL.1.2.2 NN)
   unfold Fd.cs at P'
   simp only at P'
   clear kn bn aS HP HK HB aM NN
   by_cases z:aE=0
   ·have HEz:=al (x9 (n:=n+1) (os:=os) hl z)
    have O0:Hid ((LB++eg (n+1) os fs i).length+2*(n+1)+(jH (⟨aP,key,ty,wK,num,aE⟩:Fd)).size+1≤1099511627776):=by
     have h1:=Mm (n+1) os fs (fs.length-(i+1)) (i+1) (by omega)
     rw[show i+1+(fs.length-(i+1))=fs.length by omega,CB,x9 (n:=n+1) (os:=os) hl z,zK,←jO,dT] at h1
     have h2:=ab HL
     show _≤_
     rw[zK]
     omega
    have e0:(aE==0)=true:=beq_iff_eq.2 z
    have HG:Hid (∀w2,Below U.heap.size U w2→Calls Tryz.prog 26 #[.pointer (some ⟨pg,0,none⟩),.int .i64 ((n:Int)+1),.string (jH (⟨aP,key,ty,wK,num,aE⟩:Fd))] w2 (Lv W pg (LB++eg (n+1) os fs i++bS (n+1) (⟨aP,key,ty,wK,num,aE⟩:Fd)) w2)):=by
     intro w2 hb
     obtain ⟨u2,lK⟩:=ab OW
     have hG:=df (lK.below hb) (n+1) (jH (⟨aP,key,ty,wK,num,aE⟩:Fd)) (by omega) (ab O0)
     rw[jO] at hG
     push_cast at hG
     exact hG
    clear hl z
    go_wp2_with fail
    refine (ab P' _).mono ?_
    rintro e w2 ⟨rfl,bd⟩
    have Fx:=al (ab HG w2 bd)
    have fD:=al ((ab T4).trans (Kp.below (b:=pg) bd))
    have cR:=al ((bd.block _ (zA (ab Qi)).1).trans (ab Qi))
    clear bd HG P'
    go_wp2_with fail
    refine (ab Fx).mono ?_
    rintro e w3 ⟨rfl,JB,ni⟩
    have yE:Hid (∃v,Pg W pg (LB++eg (n+1) os fs (i+1)) v w3):=by show ∃_,_;rw[ab HEz,←List.append_assoc];exact JB
    have yG:=al ((ab fD).trans ni)
    have CN:=al (ni _ _ _ _ (ab yD) (ab cR) (by decide))
    clear JB ni Fx fD cR
    go_wp2
    go_roundg (fs.length-(i+1))
    case measure=>have:=ab bz;have:=ab bu;omega
    case rel=>exact ⟨i+1,by go_num,rfl,ab bu,yE,yG,CN⟩
   ·have e0:(aE==0)=false:=beq_eq_false_iff_ne.2 z
    have Nx:=(nL.2 z)
    obtain ⟨k,hk⟩:∃k:Nat,aE.toNat-1=k:=⟨_,rfl⟩
    have G4:os[k]?=some os[k]:=List.getElem?_eq_getElem (by omega)
    obtain ⟨Ju,Rt⟩:∃x,os[k]=x:=⟨_,rfl⟩
    rw[Rt] at G4
    have A':os.getD (aE.toNat-1) ⟨#[]⟩=Ju:=by rw[hk,List.getD_eq_getElem?_getD,G4];rfl
    have zo:Ju.size≤255:=ab OI Ju (List.mem_of_getElem? G4)
    obtain ⟨go',oo,VW,hgo,Zy⟩:=ab OZ (by omega)
    have q1:IntKind.i64.wrap (aE-1)=(k:Int):=by rw[IntKind.wrap_i64];omega
    have q2:aE-1=(k:Int):=by omega
    have YK:(0:Int)≤(k:Int):=zH _
    have sv:(k:Int)<(os.length:Int):=by omega
    have xo:=((ab HbU).cell (p:=⟨go',oo+k,none⟩) hgo).trans (Zy _ _ (dS G4))
    obtain ⟨HX,TD⟩:∃X,(if fb fs i≠aE then aV (n+1) [gW,⟨#[32]⟩,Ju,⟨#[32,123]⟩] else [])=X:=⟨_,rfl⟩
    obtain ⟨CX,TE⟩:∃X,(if (fs[i+1]?).map Fd.aE≠some aE then aV (n+1) [⟨#[125]⟩] else [])=X:=⟨_,rfl⟩
    have RP:=ID (n:=n+1) (os:=os) hl z
    simp only at RP
    rw[A',TD,TE] at RP
    have MD:Hid (LB++eg (n+1) os fs (i+1)=LB++eg (n+1) os fs i++HX++bS (n+1+1) (⟨aP,key,ty,wK,num,aE⟩:Fd)++CX):=by show _=_;rw[RP];simp
    obtain ⟨Om,KX⟩:∃b,decide (fb fs i≠aE)=b:=⟨_,rfl⟩
    obtain ⟨fin,KU⟩:∃b,decide ((fs[i+1]?).map Fd.aE≠some aE)=b:=⟨_,rfl⟩
    have HXt:Hid (Om=true→HX=aV (n+1) [gW,⟨#[32]⟩,Ju,⟨#[32,123]⟩]):=fun h=>by rw[←TD,if_pos (of_decide_eq_true (KX.trans h))]
    have HXf:Hid (Om=false→HX=[]):=fun h=>by rw[←TD,if_neg (of_decide_eq_false (KX.trans h))]
    have HCt:Hid (fin=true→CX=aV (n+1) [⟨#[125]⟩]):=fun h=>by rw[←TE,if_pos (of_decide_eq_true (KU.trans h))]
    have Tc:Hid (fin=false→CX=[]):=fun h=>by rw[←TE,if_neg (of_decide_eq_false (KU.trans h))]
    have OO:=al KX
    have OL:=al KU
    clear KX KU
    have O0:Hid ((LB++eg (n+1) os fs i++HX).length+(2*(n+1+1)+(jH (⟨aP,key,ty,wK,num,aE⟩:Fd)).size+1)+CX.length≤1099511627776):=by
     have h1:=Mm (n+1) os fs (fs.length-(i+1)) (i+1) (by omega)
     rw[show i+1+(fs.length-(i+1))=fs.length by omega,CB,RP,zK,zK,zK,←jO,dT] at h1
     have h2:=ab HL
     show _≤_
     rw[zK,zK]
     omega
    have pj:Hid (HX=aV (n+1) [gW,⟨#[32]⟩,Ju,⟨#[32,123]⟩]→∀q,Calls Tryz.prog 26 #[.pointer (some ⟨pg,0,none⟩),.int .i64 ((n:Int)+1),.string (⟨#[111,110,101,111,102,32]⟩++Ju++⟨#[32,123]⟩)] (U.drewN q) (Lv W pg (LB++eg (n+1) os fs i++HX) (U.drewN q))):=by
     intro hh q
     obtain ⟨u2,lK⟩:=ab OW
     have h2:=ab O0
     rw[zK,hh,←su,dT] at h2
     have hG:=df (lK.below (below_drewN (zE U.heap.size U) q)) (n+1) (gW++⟨#[32]⟩++Ju++⟨#[32,123]⟩) (by omega) (by omega)
     rw[su,←hh] at hG
     push_cast at hG
     exact hG
    have zh:((⟨#[111,110,101,111,102,32]⟩:ByteArray)++Ju).size≤300:=by rw[ByteArray.size_append];have:(⟨#[111,110,101,111,102,32]⟩:ByteArray).size=6:=rfl;omega
    subst VW
    have Hz:=al z
    clear hl Nx hk G4 Rt A' TD TE RP Zy nL
    go_upto_region 9 with fail
    go_cut [59] (fun v59 wx=>v59=.bool Om∧∃q,wx=U.drewN q)
    case first =>
     by_cases Tt:i=0
     ·have f0:((i:Int)==0)=true:=beq_iff_eq.2 (by omega)
      have vj:Hid (Om=true):=(by show _=_;rw[←ab OO,Tt];exact decide_eq_true (fun e=>ab Hz e.symm))
      clear Tt
      go_quiet (fail)
      go_wp2_with fail
      go_meet
      exact ⟨by rw[ab vj],_,rfl⟩
     ·obtain ⟨j,hj⟩:∃j:Nat,i-1=j:=⟨_,rfl⟩
      have Jy:fs[j]?=some fs[j]:=List.getElem?_eq_getElem (by omega)
      obtain ⟨pv,VR⟩:∃p,fs[j].aE=p:=⟨_,rfl⟩
      have Hpo:Hid (fb fs i=pv):=by show _=_;obtain rfl:i=j+1:=by omega
                          unfold fb;simp only;rw[Jy];exact VR
      have xp:=((ab HbU).cell (p:=⟨g,o+(j*6+5),none⟩) hg).trans (ab Hcc _ _ ((cA Jy (j:=5) (by decide)).trans rfl))
      rw[←Nat.add_assoc,VR] at xp
      have f0:((i:Int)==0)=false:=beq_eq_false_iff_ne.2 (by omega)
      have q3:IntKind.i64.wrap ((i:Int)-1)=(j:Int):=by rw[IntKind.wrap_i64];omega
      have q4:wrap64 ((i:Int)-1)=(j:Int):=by unfold wrap64;omega
      have q5:(i:Int)-1=(j:Int):=by omega
      have j0:(0:Int)≤(j:Int):=zH _
      have j1:(j:Int)<(fs.length:Int):=by omega
      have Hj:=al hj
      clear hj Jy VR Tt
      by_cases EJ:pv=aE
      ·have f1:(pv != aE)=false:=by simpa using EJ
       have f2:(pv==aE)=true:=beq_iff_eq.2 EJ
       have vj:Hid (Om=false):=(by show _=_;rw[←ab OO,ab Hpo];exact decide_eq_false (fun k=>k EJ))
       clear EJ
       go_quiet (fail)
       go_wp2_with fail
       go_meet
       exact ⟨by rw[ab vj],_,rfl⟩
      ·have f1:(pv != aE)=true:=by simpa using EJ
       have f2:(pv==aE)=false:=beq_eq_false_iff_ne.2 EJ
       have vj:Hid (Om=true):=(by show _=_;rw[←ab OO,ab Hpo];exact decide_eq_true EJ)
       clear EJ
       go_quiet (fail)
       go_wp2_with fail
       go_meet
       exact ⟨by rw[ab vj],_,rfl⟩
    case rest =>
     obtain ⟨rfl,q9,rfl⟩:=hcut
     go_upto_if 59 with fail
     go_cut [59] (fun _ wx=>Hid (∃v,Pg W pg (LB++eg (n+1) os fs i++HX) v wx)∧Hid (Kp pg w wx)∧Hid (wx.heap[w.heap.size]?=some (.cells #[.string nm,.slice (some ⟨g,o,none⟩) fs.length cf,.slice (some ⟨go',oo,none⟩) os.length co,.slice am ms.length dh,.slice ae es.length da,.slice ar rs.length cr,.slice ag gs.length cg] 46 (0,0)))∧Hid (wx.heap[bf]?=some (.cells #[.int .i64 aP,.string key,.string ty,.string wK,.int .i64 num,.int .i64 aE] 42 (0,0))))
     case first =>
     cases Om with
     |true =>
      have Ji:Hid (HX=aV (n+1) [gW,⟨#[32]⟩,Ju,⟨#[32,123]⟩]):=ab HXt rfl
      have Ta:=al (ab pj (ab Ji))
      go_wp2_with fail
      refine (ab Ta _).mono ?_
      rintro e w5 ⟨rfl,sy,jA⟩
      have lN:=al sy
      have sf:=al (((ab T4).trans (Kp.below (b:=pg) (below_drewN (zE U.heap.size U) _))).trans jA)
      have vk:=al (jA _ _ _ _ (ab yD) (show (U.drewN _).heap[w.heap.size]?=_ from ab Qi) (by decide))
      have HF5:=al (jA _ _ _ _ (ab Hbf) (show (U.drewN _).heap[bf]?=_ from ab T7) (by decide))
      clear sy jA Ta
      go_wp2_with fail
      go_meet
      exact ⟨lN,sf,vk,HF5⟩
     |false =>
      have Ji:Hid (HX=[]):=ab HXf rfl
      go_wp2_with fail
      go_meet
      exact ⟨by show ∃_,_;rw[ab Ji,List.append_nil];obtain ⟨u2,lK⟩:=ab OW;exact ⟨u2,lK.below (below_drewN (zE U.heap.size U) _)⟩,(ab T4).trans (Kp.below (b:=pg) (below_drewN (zE U.heap.size U) _)),ab Qi,ab T7⟩
     case rest =>
     obtain ⟨SR,S3,Ub,T8⟩:=hcut
     clear y0 y1 y2 y3 y4 y5 c0 c1 c2 c3 c4 c5 c6 pj OW T4 Qi T7 xo x0 x1 x2 x3 x4 x5
     obtain ⟨c0,c1,c2,c3,c4,c5,c6⟩:=dI (ab Ub)
     obtain ⟨y0,y1,y2,y3,y4,y5⟩:=ej (ab T8)
     have Fx:Hid (∀w2,Below wc.heap.size wc w2→Calls Tryz.prog 26 #[.pointer (some ⟨pg,0,none⟩),.int .i64 ((n:Int)+2),.string (jH (⟨aP,key,ty,wK,num,aE⟩:Fd))] w2 (Lv W pg (LB++eg (n+1) os fs i++HX++bS (n+1+1) (⟨aP,key,ty,wK,num,aE⟩:Fd)) w2)):=by
      intro w2 hb
      obtain ⟨u2,lK⟩:=ab SR
      have hG:=df (lK.below hb) (n+1+1) (jH (⟨aP,key,ty,wK,num,aE⟩:Fd)) (by omega) (by have:=ab O0;omega)
      rw[jO] at hG
      have ee:(((n+1+1:Nat)):Int)=(n:Int)+2:=by omega
      rw[ee] at hG
      exact hG
     go_wp2_with fail
     refine (ab P' _).mono ?_
     rintro e w2 ⟨rfl,bd⟩
     have Ta:=al (ab Fx w2 bd)
     have fD:=al ((ab S3).trans (Kp.below (b:=pg) bd))
     have cR:=al ((bd.block _ (zA (ab Ub)).1).trans (ab Ub))
     have HF2:=al ((bd.block _ (zA (ab T8)).1).trans (ab T8))
     clear bd Fx P' SR S3 Ub T8 y0 y1 y2 y3 y4 y5 c0 c1 c2 c3 c4 c5 c6
     go_wp2_with fail
     refine (ab Ta).mono ?_
     rintro e w3 ⟨rfl,JB,ni⟩
     have pb:=al JB
     have mK:=al ((ab fD).trans ni)
     have ed:=al (ni _ _ _ _ (ab yD) (ab cR) (by decide))
     have X':=al (ni _ _ _ _ (ab Hbf) (ab HF2) (by decide))
     have TZ:Hid (Below W.heap.size W w3):=by obtain ⟨_,h⟩:=JB;exact h.bW
     clear JB ni Ta fD cR HF2
     obtain ⟨c0,c1,c2,c3,c4,c5,c6⟩:=dI (ab ed)
     obtain ⟨y0,y1,y2,y3,y4,y5⟩:=ej (ab X')
     have X9:Hid (CX=aV (n+1) [⟨#[125]⟩]→∀q,Calls Tryz.prog 26 #[.pointer (some ⟨pg,0,none⟩),.int .i64 ((n:Int)+1),.string ⟨#[125]⟩] (w3.drewN q) (Lv W pg (LB++eg (n+1) os fs i++HX++bS (n+1+1) (⟨aP,key,ty,wK,num,aE⟩:Fd)++CX) (w3.drewN q))):=by
      intro hh q
      obtain ⟨u2,lK⟩:=ab pb
      have h2:=ab O0
      rw[hh,dT] at h2
      have h3:(bS (n+1+1) (⟨aP,key,ty,wK,num,aE⟩:Fd)).length=2*(n+1+1)+(jH (⟨aP,key,ty,wK,num,aE⟩:Fd)).size+1:=by rw[←jO,dT]
      have hG:=df (lK.below (below_drewN (zE w3.heap.size w3) q)) (n+1) ⟨#[125]⟩ (by omega) (by rw[zK];omega)
      rw[←hh] at hG
      push_cast at hG
      exact hG
     go_upto_region 12 with fail
     go_cut [96] (fun v96 wx=>v96=.bool fin∧∃q,wx=w3.drewN q)
     case first =>
      by_cases Zk:i+1=fs.length
      ·have f0:((i:Int)==(fs.length:Int)-1)=true:=beq_iff_eq.2 (by omega)
       have q5:(fs.length:Int)-1=(i:Int):=by omega
       have q6:IntKind.i64.wrap ((fs.length:Int)-1)=(i:Int):=by rw[IntKind.wrap_i64];omega
       have vj:Hid (fin=true):=(by show _=_;rw[←ab OL,List.getElem?_eq_none (by omega)];exact decide_eq_true (fun e=>by cases e))
       clear Zk
       go_quiet (fail)
       go_wp2_with fail
       go_meet
       exact ⟨by rw[ab vj],_,rfl⟩
      ·obtain ⟨j,hj⟩:∃j:Nat,i+1=j:=⟨_,rfl⟩
       have Jy:fs[j]?=some fs[j]:=List.getElem?_eq_getElem (by have:=ab bu;omega)
       obtain ⟨nx,nh⟩:∃p,fs[j].aE=p:=⟨_,rfl⟩
       have Fk:Hid ((fs[i+1]?).map Fd.aE=some nx):=by show _=_;rw[hj,Jy];exact congrArg some nh
       have xn:=((ab TZ).cell (p:=⟨g,o+(j*6+5),none⟩) hg).trans (ab Hcc _ _ ((cA Jy (j:=5) (by decide)).trans rfl))
       rw[←Nat.add_assoc,nh] at xn
       obtain ⟨K,hK⟩:∃K:Nat,fs.length-1=K:=⟨_,rfl⟩
       have f0:((i:Int)==(K:Int))=false:=beq_eq_false_iff_ne.2 (by omega)
       have l1:IntKind.i64.wrap ((fs.length:Int)-1)=(K:Int):=by rw[IntKind.wrap_i64];omega
       have l2:(fs.length:Int)-1=(K:Int):=by omega
       have q3:IntKind.i64.wrap ((i:Int)+1)=(j:Int):=by rw[IntKind.wrap_i64];omega
       have j0:(0:Int)≤(j:Int):=zH _
       have j1:(j:Int)<(fs.length:Int):=by have:=ab bu;omega
       have Hj:=al hj
       clear hj Jy nh Zk hK
       by_cases FF:nx=aE
       ·have f1:(nx != aE)=false:=by simpa using FF
        have f2:(nx==aE)=true:=beq_iff_eq.2 FF
        have vj:Hid (fin=false):=(by show _=_;rw[←ab OL,ab Fk,FF];exact decide_eq_false (fun k=>k rfl))
        clear FF
        go_quiet (fail)
        go_wp2_with fail
        go_meet
        exact ⟨by rw[ab vj],_,rfl⟩
       ·have f1:(nx != aE)=true:=by simpa using FF
        have f2:(nx==aE)=false:=beq_eq_false_iff_ne.2 FF
        have vj:Hid (fin=true):=(by show _=_;rw[←ab OL,ab Fk];exact decide_eq_true (fun e=>FF (zC e)))
        clear FF
        go_quiet (fail)
        go_wp2_with fail
        go_meet
        exact ⟨by rw[ab vj],_,rfl⟩
     case rest =>
      obtain ⟨rfl,Vb,rfl⟩:=hcut
      cases fin with
      |true =>
       have Ji:Hid (CX=aV (n+1) [⟨#[125]⟩]):=ab HCt rfl
       have HG4:=al (ab X9 (ab Ji))
       go_wp2_with fail
       refine (ab HG4 _).mono ?_
       rintro e w6 ⟨rfl,ZJ,PD⟩
       have XO:Hid (∃v,Pg W pg (LB++eg (n+1) os fs (i+1)) v w6):=by show ∃_,_;rw[ab MD];exact ZJ
       have X7:=al (((ab mK).trans (Kp.below (b:=pg) (below_drewN (zE w3.heap.size w3) _))).trans PD)
       have JO:=al (PD _ _ _ _ (ab yD) (show (w3.drewN _).heap[w.heap.size]?=_ from ab ed) (by decide))
       clear ZJ PD HG4 y0 y1 y2 y3 y4 y5 c0 c1 c2 c3 c4 c5 c6 X9 pb mK ed X'
       go_wp2
       go_roundg (fs.length-(i+1))
       case measure=>have:=ab bz;have:=ab bu;omega
       case rel=>exact ⟨i+1,by go_num,rfl,ab bu,XO,X7,JO⟩
      |false =>
       have Ji:Hid (CX=[]):=ab Tc rfl
       have XO:Hid (∃v,Pg W pg (LB++eg (n+1) os fs (i+1)) v (w3.drewN Vb)):=by show ∃_,_;rw[ab MD,ab Ji,List.append_nil];obtain ⟨u2,lK⟩:=ab pb;exact ⟨u2,lK.below (below_drewN (zE w3.heap.size w3) _)⟩
       have X7:=al ((ab mK).trans (Kp.below (b:=pg) (below_drewN (zE w3.heap.size w3) Vb)))
       have JO:=al (show (w3.drewN Vb).heap[w.heap.size]?=_ from ab ed)
       clear y0 y1 y2 y3 y4 y5 c0 c1 c2 c3 c4 c5 c6 X9 pb mK ed X'
       go_wp2
       go_roundg (fs.length-(i+1))
       case measure=>have:=ab bz;have:=ab bu;omega
       case rel=>exact ⟨i+1,by go_num,rfl,ab bu,XO,X7,JO⟩
  ·obtain rfl:i=fs.length:=by omega
   have ph:=al (ab HP)
   rw[CB] at ph
   have yF:=HK
   have sg:=HB
   clear HP HK HB
   obtain ⟨wo2,Vy⟩:∃x,x=wr:=⟨_,rfl⟩
   subst Vy
   go_wp2
   go_loopg [8] ms.length (fun gk v8 wr=>∃(i:Nat),v8=.int .i64 (i:Int)∧gk=ms.length-i∧i≤ms.length∧Hid (∃v,Pg W pg ((LB++(ck fs).flatMap (dF (n+1) os))++(ms.take i).flatMap (fun m=>cn (n+1) aL m.nm (cj f (n+1+1) m))) v wr)∧Hid (Kp pg w wr)∧Hid (wr.heap[w.heap.size]?=some (.cells #[.string nm,.slice af fs.length cf,.slice ao os.length co,.slice am ms.length dh,.slice ae es.length da,.slice ar rs.length cr,.slice ag gs.length cg] 46 (0,0))))
   case atStart=>exact ⟨0,rfl,rfl,by omega,by show ∃_,_;rw[List.take_zero,List.flatMap_nil,List.append_nil];exact ab ph,yF,sg⟩
   case round =>
    obtain ⟨i,rfl,aU,eS,HP,HK,HB⟩:=hrel
    have bz:=al aU
    clear aU ph yF sg
    obtain ⟨c0,c1,c2,c3,c4,c5,c6⟩:=dI (ab HB)
    by_cases aM:i<ms.length
    ·obtain ⟨up,xT⟩:=ab HP
     have aS:Below W.heap.size W wr:=xT.bW
     obtain ⟨g,o,rfl,hg,hc⟩:=ab vO (by omega)
     have hl:=List.getElem?_eq_getElem aM
     obtain ⟨t,ht⟩:∃d,ms[i]=d:=⟨_,rfl⟩
     rw[ht] at hl
     obtain ⟨MJ,MI,Pb,MK,Bg,Bj,xy,DD,Dh,qK,wP,Da,DB,IJ,JD,dU,fR⟩:=(ab vQ).at i t hl
     have gR:=al fR
     obtain ⟨Ff,E8,rfl,-,-⟩:=fR.hf
     obtain ⟨DO,DL,rfl,-,-⟩:=fR.ho
     obtain ⟨AM,mg,rfl,-,-⟩:=fR.hm
     obtain ⟨Fg,pP,rfl,-,-⟩:=fR.he
     obtain ⟨qT,qQ,rfl,-,-⟩:=fR.hr
     obtain ⟨qU,qS,rfl,-,-⟩:=fR.hg
     have key:∀(j:Nat) (x:Value),[Value.string xy,.slice Ff DD.length E8,.slice DO Dh.length DL,.slice AM qK.length mg,.slice Fg wP.length pP,.slice qT Da.length qQ,.slice qU DB.length qS][j]?=some x→wr.cell? ⟨g,o+(i*7+j),none⟩=some x:=fun j x hx=>(aS.cell (p:=⟨g,o+(i*7+j),none⟩) hg).trans (hc _ _ (by
      rw[←dU,List.getElem?_take,List.getElem?_drop] at hx
      split at hx
      ·exact hx
      ·cases hx))
     have x0:wr.cell? ⟨g,o+i*7,none⟩=_:=key 0 _ rfl
     have x1:wr.cell? ⟨g,o+i*7+1,none⟩=_:=key 1 _ rfl
     have x2:wr.cell? ⟨g,o+i*7+2,none⟩=_:=key 2 _ rfl
     have x3:wr.cell? ⟨g,o+i*7+3,none⟩=_:=key 3 _ rfl
     have x4:wr.cell? ⟨g,o+i*7+4,none⟩=_:=key 4 _ rfl
     have x5:wr.cell? ⟨g,o+i*7+5,none⟩=_:=key 5 _ rfl
     have x6:wr.cell? ⟨g,o+i*7+6,none⟩=_:=key 6 _ rfl
     clear hc ht key dU
     have cI:=List.mem_of_getElem? hl
     have Ba:(LB++(ck fs).flatMap (dF (n+1) os))++(ms.take (i+1)).flatMap (fun m=>cn (n+1) aL m.nm (cj f (n+1+1) m))=(LB++(ck fs).flatMap (dF (n+1) os))++(ms.take i).flatMap (fun m=>cn (n+1) aL m.nm (cj f (n+1+1) m))++cn (n+1) aL t.nm (cj f (n+1+1) t):=by rw[bL hl,List.flatMap_append];simp
     have j':=fx (fun m=>cn (n+1) aL m.nm (cj f (n+1+1) m)) ms (i+1)
     rw[bL hl,List.flatMap_append,zK,show [t].flatMap (fun m=>cn (n+1) aL m.nm (cj f (n+1+1) m))=cn (n+1) aL t.nm (cj f (n+1+1) t) by simp] at j'
     have qA:((LB++(ck fs).flatMap (dF (n+1) os))++(ms.take i).flatMap (fun m=>cn (n+1) aL m.nm (cj f (n+1+1) m))).length+(cn (n+1) aL t.nm (cj f (n+1+1) t)).length≤1099511627776:=by have:=ab HL;rw[zK];rw[zK];omega
     have Cf:t.nm=xy:=by rw[(ab gR).is];rfl
     rw[Cf] at qA Ba
     have HC:=al (ab Fm W wr pg _ up (n+1) t _ _ _ _ _ _ _ _ _ _ _ _ _ _ _ xT (ab HF) (by omega) (ab gR) (ab XQ t cI) (ab My t cI) qA)
     push_cast at HC
     have th:=al Ba
     have i0:(0:Int)≤(i:Int):=zH _
     have i1:(i:Int)<(ms.length:Int):=by omega
     have bu:=al aM
     clear hl aS aM gR cI Ba j' qA xT
     go_wp2_with fail
     refine (ab HC).mono ?_
     rintro e w5 ⟨rfl,sy,jA⟩
     have lN:Hid (∃v,Pg W pg ((LB++(ck fs).flatMap (dF (n+1) os))++(ms.take (i+1)).flatMap (fun m=>cn (n+1) aL m.nm (cj f (n+1+1) m))) v w5):=by show ∃_,_;rw[ab th];exact sy
     have sf:=al ((ab HK).trans jA)
     have vk:=al (jA _ _ _ _ (ab yD) (ab HB) (by decide))
     clear sy jA HC th c0 c1 c2 c3 c4 c5 c6
     go_wp2
     go_roundg (ms.length-(i+1))
     case measure=>have:=ab bz;have:=ab bu;omega
     case rel=>exact ⟨i+1,by go_num,rfl,ab bu,lN,sf,vk⟩
    ·obtain rfl:i=ms.length:=by omega
     have ph:=al (ab HP)
     rw[List.take_length] at ph
     have yF:=HK
     have sg:=HB
     clear HP HK HB
     obtain ⟨wo3,Vx⟩:∃x,x=wr:=⟨_,rfl⟩
     subst Vx
     go_wp2
     go_loopg [9] es.length (fun gk v9 wr=>∃(i:Nat),v9=.int .i64 (i:Int)∧gk=es.length-i∧i≤es.length∧Hid (∃v,Pg W pg ((LB++(ck fs).flatMap (dF (n+1) os)++ms.flatMap (fun m=>cn (n+1) aL m.nm (cj f (n+1+1) m)))++(es.take i).flatMap (jB (n+1))) v wr)∧Hid (Kp pg w wr)∧Hid (wr.heap[w.heap.size]?=some (.cells #[.string nm,.slice af fs.length cf,.slice ao os.length co,.slice am ms.length dh,.slice ae es.length da,.slice ar rs.length cr,.slice ag gs.length cg] 46 (0,0))))
     case atStart=>exact ⟨0,rfl,rfl,by omega,by show ∃_,_;rw[List.take_zero,List.flatMap_nil,List.append_nil];exact ab ph,yF,sg⟩
     case round =>
      obtain ⟨i,rfl,aU,eS,HP,HK,HB⟩:=hrel
      have bz:=al aU
      clear aU ph yF sg
      obtain ⟨c0,c1,c2,c3,c4,c5,c6⟩:=dI (ab HB)
      by_cases aM:i<es.length
      ·obtain ⟨up,xT⟩:=ab HP
       have aS:Below W.heap.size W wr:=xT.bW
       obtain ⟨g,o,rfl,hg,hc⟩:=ab vP (by omega)
       have hl:=List.getElem?_eq_getElem aM
       obtain ⟨t,ht⟩:∃d,es[i]=d:=⟨_,rfl⟩
       rw[ht] at hl
       obtain ⟨vv,Bg,Bj,dU,rv,rr,rg⟩:=(ab vR).at i t hl
       have gR:=al (And.intro rv (And.intro rr rg))
       obtain ⟨av,cv,rfl,-,-⟩:=rv
       obtain ⟨qT,qQ,rfl,-,-⟩:=rr
       obtain ⟨qU,qS,rfl,-,-⟩:=rg
       have key:∀(j:Nat) (x:Value),[Value.string t.name,.slice av t.aQ.length cv,.slice qT t.res.length qQ,.slice qU t.gone.length qS][j]?=some x→wr.cell? ⟨g,o+(i*4+j),none⟩=some x:=fun j x hx=>(aS.cell (p:=⟨g,o+(i*4+j),none⟩) hg).trans (hc _ _ (by
        rw[←dU,List.getElem?_take,List.getElem?_drop] at hx
        split at hx
        ·exact hx
        ·cases hx))
       have x0:wr.cell? ⟨g,o+i*4,none⟩=_:=key 0 _ rfl
       have x1:wr.cell? ⟨g,o+i*4+1,none⟩=_:=key 1 _ rfl
       have x2:wr.cell? ⟨g,o+i*4+2,none⟩=_:=key 2 _ rfl
       have x3:wr.cell? ⟨g,o+i*4+3,none⟩=_:=key 3 _ rfl
       clear hc ht key dU
       have cI:=List.mem_of_getElem? hl
       have Ba:(LB++(ck fs).flatMap (dF (n+1) os)++ms.flatMap (fun m=>cn (n+1) aL m.nm (cj f (n+1+1) m)))++(es.take (i+1)).flatMap (jB (n+1))=(LB++(ck fs).flatMap (dF (n+1) os)++ms.flatMap (fun m=>cn (n+1) aL m.nm (cj f (n+1+1) m)))++(es.take i).flatMap (jB (n+1))++jB (n+1) t:=by rw[bL hl,List.flatMap_append];simp
       have j':=fx (jB (n+1)) es (i+1)
       rw[bL hl,List.flatMap_append,zK,show [t].flatMap (jB (n+1))=jB (n+1) t by simp] at j'
       have qA:((LB++(ck fs).flatMap (dF (n+1) os)++ms.flatMap (fun m=>cn (n+1) aL m.nm (cj f (n+1+1) m)))++(es.take i).flatMap (jB (n+1))).length+(jB (n+1) t).length≤1099511627776:=by have:=ab HL;rw[zK];rw[zK,zK];omega
       have RO:=ab Xy t cI
       have HC:=al (wJ xT (ab HF) (n+1) (by omega) (ab gR).1 (ab gR).2.1 (ab gR).2.2 (ab XR t cI) RO.1 RO.2 qA)
       push_cast at HC
       have th:=al Ba
       have i0:(0:Int)≤(i:Int):=zH _
       have i1:(i:Int)<(es.length:Int):=by omega
       have bu:=al aM
       clear hl aS aM gR cI Ba j' qA xT
       go_wp2_with fail
       refine (ab HC).mono ?_
       rintro e w5 ⟨rfl,sy,jA⟩
       have lN:Hid (∃v,Pg W pg ((LB++(ck fs).flatMap (dF (n+1) os)++ms.flatMap (fun m=>cn (n+1) aL m.nm (cj f (n+1+1) m)))++(es.take (i+1)).flatMap (jB (n+1))) v w5):=by show ∃_,_;rw[ab th];exact sy
       have sf:=al ((ab HK).trans jA)
       have vk:=al (jA _ _ _ _ (ab yD) (ab HB) (by decide))
       clear sy jA HC th c0 c1 c2 c3 c4 c5 c6
       go_wp2
       go_roundg (es.length-(i+1))
       case measure=>have:=ab bz;have:=ab bu;omega
       case rel=>exact ⟨i+1,by go_num,rfl,ab bu,lN,sf,vk⟩
      ·obtain rfl:i=es.length:=by omega
       have ph:=al (ab HP)
       rw[List.take_length] at ph
       have yF:=HK
       have sg:=HB
       clear HP HK HB
       obtain ⟨wo4,Vw⟩:∃x,x=wr:=⟨_,rfl⟩
       subst Vw
       obtain ⟨Ur,ZI⟩:=ab ph
       have HG:=al (df ZI n ⟨#[125]⟩ (by omega) (by have:=ab HL;rw[zK,zK,zK];have:(⟨#[125]⟩:ByteArray).size=1:=rfl;omega))
       clear ZI
       go_wp2_with fail
       refine (ab HG).mono ?_
       rintro e w9 ⟨rfl,uZ,Zn⟩
       have HP9:=al uZ
       have T5:=al ((ab yF).trans Zn)
       clear uZ Zn HG
       go_wp2
       go_end0
       exact ⟨rfl,by rw[ab DX];exact ab HP9,ab T5⟩
theorem oM:∀f,Yi f
 |0=>by
  intro W w pg L v n m vf vo vm ve vr vg nm fs os ms es rs gs cm ce _ _ _ _ h
  exact h.elim
 |f+1=>vJ (oM f)
end Go.Proofs.YtichhjfjcinjgaaGreatDoor

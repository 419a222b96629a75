import Derived.Test.YtichhjfjcinjgaaGreatDoorM44
set_option maxHeartbeats 16000000
set_option maxRecDepth 100000
namespace Go.Proofs.YtichhjfjcinjgaaGreatDoor
open Go.RowKit
attribute [local go_sem ↓] Go.wp_at_zero Go.wp_at_succ
def Yd (f:Nat):Prop:=∀(W w:World) (pg:Nat) (L:List Nat) (v:Value) (n:Nat) (m:Ms) vf vo vm ve vr vg nm fs os ms es rs gs cm ce,Pg W pg L v w→jw W→n+1+f≤490→Ln W m vf vo vm ve vr vg nm fs os ms es rs gs cm ce→Jy f m→Oo f m→L.length+(cl n aL nm (cd f (n+1) m)).length≤1099511627776 →
 Calls Tryz.prog 28 #[.pointer (some ⟨pg,0,none⟩),.int .i64 (n:Int),.agg #[.string nm,vf,vo,vm,ve,vr,vg]] w (Lm W pg (L++cl n aL nm (cd f (n+1) m)) w)
theorem vD {f:Nat} (ih:Yd f):Yd (f+1):=by
 intro W w pg L v n m vf vo vm ve vr vg nm fs os ms es rs gs cm ce h hF hn hV ho Q7 hl
 have ej:=hV.is
 subst ej
 obtain ⟨-,Y9,Y4,Y8,Y7,Y'⟩:=ho
 obtain ⟨G0,YQ,YS⟩:=Q7
 have Pk:=G0
 unfold tI at Pk
 simp only[Bool.and_eq_true] at Pk
 have zn:nm.size≤255:=dC Pk.1.1.1.1.1
 have Ox:Hid (∀s ∈ os,s.size≤255):=fun s hs=>dC (List.all_eq_true.1 Pk.1.1.1.1.2 s hs)
 have Hfz:Hid (∀d ∈ fs,d.name.size≤255):=fun d hd=>(uw (List.all_eq_true.1 Pk.1.1.1.2 d hd)).2
 have Xu:Hid (∀e ∈ es,e.name.size≤255∧∀v ∈ e.aQ,v.1.size≤255):=fun e he=>by
  have h1:=YS e he
  unfold bc at h1
  simp only[Bool.and_eq_true] at h1
  refine ⟨dC h1.1.1.1.1,fun v hv=>?_⟩
  have h2:=List.all_eq_true.1 h1.1.1.2 v hv
  unfold ey at h2
  simp only[Bool.and_eq_true] at h2
  exact dC h2.1.1.1
 have HOf:=al Y9
 have XM:=al Y7
 have XN:=al Y'
 have Mm:=al YQ
 have Fa:=al ih
 have HF:=al hF
 have P0:=al (fun (w':World) (L':List Nat) (u:Value) (hP:Pg W pg L' u w') (Nu:L'.length+(eW (n+1) 536870911 rs gs).length≤1099511627776)=>Ao hP hF (n+1) (by omega) hV.hr hV.hg Y4 Y8 Nu)
 have vK:=al hV.fl
 have vJ:=al hV.ej
 obtain ⟨af,cf,rfl,Ph,lf⟩:=hV.hf
 obtain ⟨ao,co,rfl,na,lo⟩:=hV.ho
 obtain ⟨am,dh,rfl,Jp,lm⟩:=hV.hm
 obtain ⟨ae,dc,rfl,iG,le⟩:=hV.he
 obtain ⟨ar,cr,rfl,-,-⟩:=hV.hr
 obtain ⟨ag,cg,rfl,-,-⟩:=hV.hg
 have OP:=al lf
 have ON:=al lo
 have vH:=al lm
 have vI:=al le
 have k0:=aK w (.cells #[.string nm,.slice af fs.length cf,.slice ao os.length co,.slice am ms.length dh,.slice ae es.length dc,.slice ar rs.length cr,.slice ag gs.length cg] 46)
 have bJ:Below w.heap.size w (w.alloc (.cells #[.string nm,.slice af fs.length cf,.slice ao os.length co,.slice am ms.length dh,.slice ae es.length dc,.slice ar rs.length cr,.slice ag gs.length cg] 46)):=(zE _ _).alloc (zD _) _
 have yz:Hid (w.heap.size≠pg):=fun e=>by have:=(zA h.dj).1;omega
 obtain ⟨V,fO⟩:∃V,w.alloc (.cells #[.string nm,.slice af fs.length cf,.slice ao os.length co,.slice am ms.length dh,.slice ae es.length dc,.slice ar rs.length cr,.slice ag gs.length cg] 46)=V:=⟨_,rfl⟩
 rw[fO] at k0 bJ
 obtain ⟨c0,c1,c2,c3,c4,c5,c6⟩:=dG k0
 have hE:cl n aL nm (cd (f+1) (n+1) (.mk nm fs os ms es rs gs))=aV n [⟨#[109,101,115,115,97,103,101,32]⟩++nm++⟨#[32,123]⟩]++(eW (n+1) 536870911 rs gs++(cj fs).flatMap (dD (n+1) os)++(ms.flatMap (fun m=>cl (n+1) aL m.nm (cd f (n+1+1) m))++es.flatMap (jy (n+1))))++aV n [⟨#[125]⟩]:=by
  rw[show (⟨#[109,101,115,115,97,103,101,32]⟩:ByteArray)=aL++⟨#[32]⟩ from rfl,sr]
  rfl
 rw[hE] at hl ⊢
 have KH:L.length+(2*n+(nm.size+10)+1)+(eW (n+1) 536870911 rs gs).length+((cj fs).flatMap (dD (n+1) os)).length+(ms.flatMap (fun m=>cl (n+1) aL m.nm (cd f (n+1+1) m))).length+(es.flatMap (jy (n+1))).length+(2*n+2)≤1099511627776:=by
  rw[zK,zK,zK,zK,zK,dP,dP,ByteArray.size_append,ByteArray.size_append] at hl
  have:(⟨#[109,101,115,115,97,103,101,32]⟩:ByteArray).size=8:=rfl
  have:(⟨#[32,123]⟩:ByteArray).size=2:=rfl
  have:(⟨#[125]⟩:ByteArray).size=1:=rfl
  omega
 have xS:=h.below bJ
 have hG:=da xS n (⟨#[109,101,115,115,97,103,101,32]⟩++nm++⟨#[32,123]⟩) (by omega) (by rw[ByteArray.size_append,ByteArray.size_append];have:(⟨#[109,101,115,115,97,103,101,32]⟩:ByteArray).size=8:=rfl;have:(⟨#[32,123]⟩:ByteArray).size=2:=rfl;omega)
 have HG:=al hG
 have z1:((⟨#[109,101,115,115,97,103,101,32]⟩:ByteArray)++nm).size≤300:=by rw[ByteArray.size_append];have:(⟨#[109,101,115,115,97,103,101,32]⟩:ByteArray).size=8:=rfl;omega
 have j9:=al k0
 have Fg:Hid (Kp pg w V):=Kp.below bJ
 obtain ⟨L1,KU⟩:∃X,L++aV n [⟨#[109,101,115,115,97,103,101,32]⟩++nm++⟨#[32,123]⟩]=X:=⟨_,rfl⟩
 rw[KU] at HG
 obtain ⟨LB,KT⟩:∃X,L1++eW (n+1) 536870911 rs gs=X:=⟨_,rfl⟩
 have DN:Hid (L++(aV n [⟨#[109,101,115,115,97,103,101,32]⟩++nm++⟨#[32,123]⟩]++(eW (n+1) 536870911 rs gs++(cj fs).flatMap (dD (n+1) os)++(ms.flatMap (fun m=>cl (n+1) aL m.nm (cd f (n+1+1) m))++es.flatMap (jy (n+1))))++aV n [⟨#[125]⟩])=(LB++(cj fs).flatMap (dD (n+1) os)++ms.flatMap (fun m=>cl (n+1) aL m.nm (cd f (n+1+1) m))++es.flatMap (jy (n+1)))++aV n [⟨#[125]⟩]):=by show _=_;rw[←KT,←KU];simp
 have Tc:L1.length=L.length+(2*n+(nm.size+10)+1):=by
  rw[←KU,zK,dP,ByteArray.size_append,ByteArray.size_append]
  have:(⟨#[109,101,115,115,97,103,101,32]⟩:ByteArray).size=8:=rfl
  have:(⟨#[32,123]⟩:ByteArray).size=2:=rfl
  omega
 have Tb:LB.length=L1.length+(eW (n+1) 536870911 rs gs).length:=by rw[←KT,zK]
 have Mo:Hid (L1.length+(eW (n+1) 536870911 rs gs).length≤1099511627776):=by show _≤_;omega
 have HL:Hid (LB.length+((cj fs).flatMap (dD (n+1) os)).length+(ms.flatMap (fun m=>cl (n+1) aL m.nm (cd f (n+1+1) m))).length+(es.flatMap (jy (n+1))).length+(2*n+2)≤1099511627776):=by show _≤_;omega
 have TX:=al KT
 have Dj:n≤400∨True:=.inr trivial
 clear Dj lf lo lm le hl KH hE xS hG KU KT h bJ k0 Tc Tb Pk G0 YQ YS Y9 Y4 Y8 Y7 Y' ih hF hV
 go_enter Tryz.func28,Tryz.ntmps28
 go_wp2_with fail
 refine (ab HG).mono ?_
 rintro e w1 ⟨rfl,xS,lO⟩
 have uW:=al (lO _ _ _ _ (ab yz) (ab j9) (by decide))
 have iC:=al ((ab Fg).trans lO)
 obtain ⟨u1,xS⟩:=xS
 have sb:=al (ab P0 w1 L1 u1 xS (ab Mo))
 rw[ab TX] at sb
 push_cast at sb
 clear xS lO HG Fg j9 P0 c0 c1 c2 c3 c4 c5 c6 z1
 obtain ⟨c0,c1,c2,c3,c4,c5,c6⟩:=dG (ab uW)
 go_wp2_with fail
 refine (ab sb).mono ?_
 rintro e w2 ⟨rfl,lI,lG⟩
 have se:=al (lG _ _ _ _ (ab yz) (ab uW) (by decide))
 have yB:=al ((ab iC).trans lG)
 have pb:=al lI
 clear lI lG sb uW iC c0 c1 c2 c3 c4 c5 c6
 go_wp2
 go_loopg [6,7] fs.length (fun gk v6 _ wr=>∃(i:Nat),v6=.int .i64 (i:Int)∧gk=fs.length-i∧i≤fs.length∧Hid (∃v,Pg W pg (LB++eg (n+1) os fs i) v wr)∧Hid (Kp pg w wr)∧Hid (wr.heap[w.heap.size]?=some (.cells #[.string nm,.slice af fs.length cf,.slice ao os.length co,.slice am ms.length dh,.slice ae es.length dc,.slice ar rs.length cr,.slice ag gs.length cg] 46 (0,0))))
 case atStart=>exact ⟨0,rfl,rfl,by omega,by show ∃_,_;rw[WD,List.append_nil];exact ab pb,yB,se⟩
 case round =>
  obtain ⟨i,rfl,aU,eO,HP,HK,HB⟩:=hrel
  have bz:=al aU
  clear aU pb yB se
  obtain ⟨c0,c1,c2,c3,c4,c5,c6⟩:=dG (ab HB)
  by_cases aM:i<fs.length
  ·have aS:Below W.heap.size W wr:=by obtain ⟨_,h⟩:=ab HP;exact h.bV
   obtain ⟨g,o,rfl,hg,hc⟩:=ab OP (by omega)
   have hl:=List.getElem?_eq_getElem aM
   obtain ⟨d,hd⟩:∃d,fs[i]=d:=⟨_,rfl⟩
   rw[hd] at hl
   obtain ⟨aP,key,ty,wH,num,aE⟩:=d
   have x0:=(aS.cell (p:=⟨g,o+(i*6+0),none⟩) hg).trans (hc _ _ ((cz hl (j:=0) (by decide)).trans rfl))
   have x1:=(aS.cell (p:=⟨g,o+(i*6+1),none⟩) hg).trans (hc _ _ ((cz hl (j:=1) (by decide)).trans rfl))
   have x2:=(aS.cell (p:=⟨g,o+(i*6+2),none⟩) hg).trans (hc _ _ ((cz hl (j:=2) (by decide)).trans rfl))
   have x3:=(aS.cell (p:=⟨g,o+(i*6+3),none⟩) hg).trans (hc _ _ ((cz hl (j:=3) (by decide)).trans rfl))
   have x4:=(aS.cell (p:=⟨g,o+(i*6+4),none⟩) hg).trans (hc _ _ ((cz hl (j:=4) (by decide)).trans rfl))
   have x5:=(aS.cell (p:=⟨g,o+(i*6+5),none⟩) hg).trans (hc _ _ ((cz hl (j:=5) (by decide)).trans rfl))
   rw[Nat.add_zero] at x0
   rw[←Nat.add_assoc] at x1 x2 x3 x4 x5
   have Hcc:=al hc
   clear hc hd
   have nJ:=ab HOf _ (List.mem_of_getElem? hl)
   have NB:=ab Hfz _ (List.mem_of_getElem? hl)
   simp only at nJ NB
   have i0:(0:Int)≤(i:Int):=zH _
   have i1:(i:Int)<(fs.length:Int):=by omega
   have bu:=al aM
   have kn:=aK wr (.cells #[.int .i64 aP,.string key,.string ty,.string wH,.int .i64 num,.int .i64 aE] 42)
   have bn:Below wr.heap.size wr (wr.alloc (.cells #[.int .i64 aP,.string key,.string ty,.string wH,.int .i64 num,.int .i64 aE] 42)):=(zE _ _).alloc (zD _) _
   obtain ⟨U,hU⟩:∃U,wr.alloc (.cells #[.int .i64 aP,.string key,.string ty,.string wH,.int .i64 num,.int .i64 aE] 42)=U:=⟨_,rfl⟩
   rw[hU] at kn bn
   obtain ⟨bf,Zu⟩:∃b,wr.heap.size=b:=⟨_,rfl⟩
   have Hbf:Hid (bf≠pg):=by
    obtain ⟨_,h⟩:=ab HP
    show bf≠pg
    intro e
    have:=(zA h.dj).1
    omega
   have OK:Hid (∃v,Pg W pg (LB++eg (n+1) os fs i) v U):=by obtain ⟨u2,h⟩:=ab HP;exact ⟨u2,h.below bn⟩
   have TY:=al ((ab HK).trans (Kp.below (b:=pg) bn))
   have P8:=al ((bn.block _ (zA (ab HB)).1).trans (ab HB))
   have T1:=al kn
   have HbU:Hid (Below W.heap.size W U):=aS.trans (bn.mono aS.size)
   rw[Zu] at T1
   obtain ⟨y0,y1,y2,y3,y4,y5⟩:=ef kn
   rw[Zu] at y0 y1 y2 y3 y4 y5
   obtain ⟨c0,c1,c2,c3,c4,c5,c6⟩:=dG (ab P8)
   have PZ:=al (fun w'=>Bs w' (⟨aP,key,ty,wH,num,aE⟩:Fd) nJ.1.1 nJ.1.2.1 nJ.1.2.2 NB)
   unfold Fd.cs at PZ
   simp only at PZ
   clear kn bn aS HP HK HB aM NB
   by_cases z:aE=0
   ·have HEz:=al (xZ (n:=n+1) (os:=os) hl z)
    have OO:Hid ((LB++eg (n+1) os fs i).length+2*(n+1)+(jE (⟨aP,key,ty,wH,num,aE⟩:Fd)).size+1≤1099511627776):=by
     have h1:=Ma (n+1) os fs (fs.length-(i+1)) (i+1) (by omega)
     rw[show i+1+(fs.length-(i+1))=fs.length by omega,Cs,xZ (n:=n+1) (os:=os) hl z,zK,←jK,dP] at h1
     have h2:=ab HL
     show _≤_
     rw[zK]
     omega
    have e0:(aE==0)=true:=beq_iff_eq.2 z
    have HG:Hid (∀w2,Below U.heap.size U w2→Calls Tryz.prog 26 #[.pointer (some ⟨pg,0,none⟩),.int .i64 ((n:Int)+1),.string (jE (⟨aP,key,ty,wH,num,aE⟩:Fd))] w2 (Lm W pg (LB++eg (n+1) os fs i++bR (n+1) (⟨aP,key,ty,wH,num,aE⟩:Fd)) w2)):=by
     intro w2 hb
     obtain ⟨u2,lI⟩:=ab OK
     have hG:=da (lI.below hb) (n+1) (jE (⟨aP,key,ty,wH,num,aE⟩:Fd)) (by omega) (ab OO)
     rw[jK] at hG
     push_cast at hG
     exact hG
    clear hl z
    go_wp2_with fail
    refine (ab PZ _).mono ?_
    rintro e w2 ⟨rfl,bd⟩
    have Fj:=al (ab HG w2 bd)
    have fA:=al ((ab TY).trans (Kp.below (b:=pg) bd))
    have cP:=al ((bd.block _ (zA (ab P8)).1).trans (ab P8))
    clear bd HG PZ
    go_wp2_with fail
    refine (ab Fj).mono ?_
    rintro e w3 ⟨rfl,Jt,nc⟩
    have yA:Hid (∃v,Pg W pg (LB++eg (n+1) os fs (i+1)) v w3):=by show ∃_,_;rw[ab HEz,←List.append_assoc];exact Jt
    have yC:=al ((ab fA).trans nc)
    have CD:=al (nc _ _ _ _ (ab yz) (ab cP) (by decide))
    clear Jt nc Fj fA cP
    go_wp2
    go_roundg (fs.length-(i+1))
    case measure=>have:=ab bz;have:=ab bu;omega
    case rel=>exact ⟨i+1,by go_num,rfl,ab bu,yA,yC,CD⟩
   ·have e0:(aE==0)=false:=beq_eq_false_iff_ne.2 z
    have Nk:=(nJ.2 z)
    obtain ⟨k,hk⟩:∃k:Nat,aE.toNat-1=k:=⟨_,rfl⟩
    have GS:os[k]?=some os[k]:=List.getElem?_eq_getElem (by omega)
    obtain ⟨Jh,Rh⟩:∃x,os[k]=x:=⟨_,rfl⟩
    rw[Rh] at GS
    have A2:os.getD (aE.toNat-1) ⟨#[]⟩=Jh:=by rw[hk,List.getD_eq_getElem?_getD,GS];rfl
    have zo:Jh.size≤255:=ab Ox Jh (List.mem_of_getElem? GS)
    obtain ⟨go',oo,VS,hgo,Zt⟩:=ab ON (by omega)
    have q1:IntKind.i64.wrap (aE-1)=(k:Int):=by rw[IntKind.wrap_i64];omega
    have q2:aE-1=(k:Int):=by omega
    have YF:(0:Int)≤(k:Int):=zH _
    have ss:(k:Int)<(os.length:Int):=by omega
    have xo:=((ab HbU).cell (p:=⟨go',oo+k,none⟩) hgo).trans (Zt _ _ (dO GS))
    obtain ⟨HX,Tu⟩:∃X,(if eX fs i≠aE then aV (n+1) [gU,⟨#[32]⟩,Jh,⟨#[32,123]⟩] else [])=X:=⟨_,rfl⟩
    obtain ⟨CX,Tv⟩:∃X,(if (fs[i+1]?).map Fd.aE≠some aE then aV (n+1) [⟨#[125]⟩] else [])=X:=⟨_,rfl⟩
    have RC:=Iq (n:=n+1) (os:=os) hl z
    simp only at RC
    rw[A2,Tu,Tv] at RC
    have Mt:Hid (LB++eg (n+1) os fs (i+1)=LB++eg (n+1) os fs i++HX++bR (n+1+1) (⟨aP,key,ty,wH,num,aE⟩:Fd)++CX):=by show _=_;rw[RC];simp
    obtain ⟨Oa,KO⟩:∃b,decide (eX fs i≠aE)=b:=⟨_,rfl⟩
    obtain ⟨fin,KL⟩:∃b,decide ((fs[i+1]?).map Fd.aE≠some aE)=b:=⟨_,rfl⟩
    have HXt:Hid (Oa=true→HX=aV (n+1) [gU,⟨#[32]⟩,Jh,⟨#[32,123]⟩]):=fun h=>by rw[←Tu,if_pos (of_decide_eq_true (KO.trans h))]
    have HXf:Hid (Oa=false→HX=[]):=fun h=>by rw[←Tu,if_neg (of_decide_eq_false (KO.trans h))]
    have HCt:Hid (fin=true→CX=aV (n+1) [⟨#[125]⟩]):=fun h=>by rw[←Tv,if_pos (of_decide_eq_true (KL.trans h))]
    have S2:Hid (fin=false→CX=[]):=fun h=>by rw[←Tv,if_neg (of_decide_eq_false (KL.trans h))]
    have OD:=al KO
    have OA:=al KL
    clear KO KL
    have OO:Hid ((LB++eg (n+1) os fs i++HX).length+(2*(n+1+1)+(jE (⟨aP,key,ty,wH,num,aE⟩:Fd)).size+1)+CX.length≤1099511627776):=by
     have h1:=Ma (n+1) os fs (fs.length-(i+1)) (i+1) (by omega)
     rw[show i+1+(fs.length-(i+1))=fs.length by omega,Cs,RC,zK,zK,zK,←jK,dP] at h1
     have h2:=ab HL
     show _≤_
     rw[zK,zK]
     omega
    have pc:Hid (HX=aV (n+1) [gU,⟨#[32]⟩,Jh,⟨#[32,123]⟩]→∀q,Calls Tryz.prog 26 #[.pointer (some ⟨pg,0,none⟩),.int .i64 ((n:Int)+1),.string (⟨#[111,110,101,111,102,32]⟩++Jh++⟨#[32,123]⟩)] (U.drewN q) (Lm W pg (LB++eg (n+1) os fs i++HX) (U.drewN q))):=by
     intro hh q
     obtain ⟨u2,lI⟩:=ab OK
     have h2:=ab OO
     rw[zK,hh,←sr,dP] at h2
     have hG:=da (lI.below (below_drewN (zE U.heap.size U) q)) (n+1) (gU++⟨#[32]⟩++Jh++⟨#[32,123]⟩) (by omega) (by omega)
     rw[sr,←hh] at hG
     push_cast at hG
     exact hG
    have zh:((⟨#[111,110,101,111,102,32]⟩:ByteArray)++Jh).size≤300:=by rw[ByteArray.size_append];have:(⟨#[111,110,101,111,102,32]⟩:ByteArray).size=6:=rfl;omega
    subst VS
    have Hz:=al z
    clear hl Nk hk GS Rh A2 Tu Tv RC Zt nJ
    go_upto_region 9 with fail
    go_cut [59] (fun v59 wx=>v59=.bool Oa∧∃q,wx=U.drewN q)
    case first =>
     by_cases Tk:i=0
     ·have f0:((i:Int)==0)=true:=beq_iff_eq.2 (by omega)
      have uZ:Hid (Oa=true):=(by show _=_;rw[←ab OD,Tk];exact decide_eq_true (fun e=>ab Hz e.symm))
      clear Tk
      go_quiet (fail)
      go_wp2_with fail
      go_meet
      exact ⟨by rw[ab uZ],_,rfl⟩
     ·obtain ⟨j,hj⟩:∃j:Nat,i-1=j:=⟨_,rfl⟩
      have Jq:fs[j]?=some fs[j]:=List.getElem?_eq_getElem (by omega)
      obtain ⟨pv,VM⟩:∃p,fs[j].aE=p:=⟨_,rfl⟩
      have Hpo:Hid (eX fs i=pv):=by show _=_;obtain rfl:i=j+1:=by omega
                          unfold eX;simp only;rw[Jq];exact VM
      have xp:=((ab HbU).cell (p:=⟨g,o+(j*6+5),none⟩) hg).trans (ab Hcc _ _ ((cz Jq (j:=5) (by decide)).trans rfl))
      rw[←Nat.add_assoc,VM] at xp
      have f0:((i:Int)==0)=false:=beq_eq_false_iff_ne.2 (by omega)
      have q3:IntKind.i64.wrap ((i:Int)-1)=(j:Int):=by rw[IntKind.wrap_i64];omega
      have q4:wrap64 ((i:Int)-1)=(j:Int):=by unfold wrap64;omega
      have q5:(i:Int)-1=(j:Int):=by omega
      have j0:(0:Int)≤(j:Int):=zH _
      have j1:(j:Int)<(fs.length:Int):=by omega
      have Hj:=al hj
      clear hj Jq VM Tk
      by_cases Ey:pv=aE
      ·have f1:(pv != aE)=false:=by simpa using Ey
       have f2:(pv==aE)=true:=beq_iff_eq.2 Ey
       have uZ:Hid (Oa=false):=(by show _=_;rw[←ab OD,ab Hpo];exact decide_eq_false (fun k=>k Ey))
       clear Ey
       go_quiet (fail)
       go_wp2_with fail
       go_meet
       exact ⟨by rw[ab uZ],_,rfl⟩
      ·have f1:(pv != aE)=true:=by simpa using Ey
       have f2:(pv==aE)=false:=beq_eq_false_iff_ne.2 Ey
       have uZ:Hid (Oa=true):=(by show _=_;rw[←ab OD,ab Hpo];exact decide_eq_true Ey)
       clear Ey
       go_quiet (fail)
       go_wp2_with fail
       go_meet
       exact ⟨by rw[ab uZ],_,rfl⟩
    case rest =>
     obtain ⟨rfl,q9,rfl⟩:=hcut
     go_upto_if 59 with fail
     go_cut [59] (fun _ wx=>Hid (∃v,Pg W pg (LB++eg (n+1) os fs i++HX) v wx)∧Hid (Kp pg w wx)∧Hid (wx.heap[w.heap.size]?=some (.cells #[.string nm,.slice (some ⟨g,o,none⟩) fs.length cf,.slice (some ⟨go',oo,none⟩) os.length co,.slice am ms.length dh,.slice ae es.length dc,.slice ar rs.length cr,.slice ag gs.length cg] 46 (0,0)))∧Hid (wx.heap[bf]?=some (.cells #[.int .i64 aP,.string key,.string ty,.string wH,.int .i64 num,.int .i64 aE] 42 (0,0))))
     case first =>
     cases Oa with
     |true =>
      have I5:Hid (HX=aV (n+1) [gU,⟨#[32]⟩,Jh,⟨#[32,123]⟩]):=ab HXt rfl
      have S0:=al (ab pc (ab I5))
      go_wp2_with fail
      refine (ab S0 _).mono ?_
      rintro e w5 ⟨rfl,sw,jx⟩
      have lL:=al sw
      have sd:=al (((ab TY).trans (Kp.below (b:=pg) (below_drewN (zE U.heap.size U) _))).trans jx)
      have u6:=al (jx _ _ _ _ (ab yz) (show (U.drewN _).heap[w.heap.size]?=_ from ab P8) (by decide))
      have HF5:=al (jx _ _ _ _ (ab Hbf) (show (U.drewN _).heap[bf]?=_ from ab T1) (by decide))
      clear sw jx S0
      go_wp2_with fail
      go_meet
      exact ⟨lL,sd,u6,HF5⟩
     |false =>
      have I5:Hid (HX=[]):=ab HXf rfl
      go_wp2_with fail
      go_meet
      exact ⟨by show ∃_,_;rw[ab I5,List.append_nil];obtain ⟨u2,lI⟩:=ab OK;exact ⟨u2,lI.below (below_drewN (zE U.heap.size U) _)⟩,(ab TY).trans (Kp.below (b:=pg) (below_drewN (zE U.heap.size U) _)),ab P8,ab T1⟩
     case rest =>
     obtain ⟨SG,SR,T6,T2⟩:=hcut
     clear y0 y1 y2 y3 y4 y5 c0 c1 c2 c3 c4 c5 c6 pc OK TY P8 T1 xo x0 x1 x2 x3 x4 x5
     obtain ⟨c0,c1,c2,c3,c4,c5,c6⟩:=dG (ab T6)
     obtain ⟨y0,y1,y2,y3,y4,y5⟩:=ef (ab T2)
     have Fj:Hid (∀w2,Below wc.heap.size wc w2→Calls Tryz.prog 26 #[.pointer (some ⟨pg,0,none⟩),.int .i64 ((n:Int)+2),.string (jE (⟨aP,key,ty,wH,num,aE⟩:Fd))] w2 (Lm W pg (LB++eg (n+1) os fs i++HX++bR (n+1+1) (⟨aP,key,ty,wH,num,aE⟩:Fd)) w2)):=by
      intro w2 hb
      obtain ⟨u2,lI⟩:=ab SG
      have hG:=da (lI.below hb) (n+1+1) (jE (⟨aP,key,ty,wH,num,aE⟩:Fd)) (by omega) (by have:=ab OO;omega)
      rw[jK] at hG
      have ee:(((n+1+1:Nat)):Int)=(n:Int)+2:=by omega
      rw[ee] at hG
      exact hG
     go_wp2_with fail
     refine (ab PZ _).mono ?_
     rintro e w2 ⟨rfl,bd⟩
     have S0:=al (ab Fj w2 bd)
     have fA:=al ((ab SR).trans (Kp.below (b:=pg) bd))
     have cP:=al ((bd.block _ (zA (ab T6)).1).trans (ab T6))
     have HF2:=al ((bd.block _ (zA (ab T2)).1).trans (ab T2))
     clear bd Fj PZ SG SR T6 T2 y0 y1 y2 y3 y4 y5 c0 c1 c2 c3 c4 c5 c6
     go_wp2_with fail
     refine (ab S0).mono ?_
     rintro e w3 ⟨rfl,Jt,nc⟩
     have o4:=al Jt
     have mH:=al ((ab fA).trans nc)
     have dX:=al (nc _ _ _ _ (ab yz) (ab cP) (by decide))
     have XZ:=al (nc _ _ _ _ (ab Hbf) (ab HF2) (by decide))
     have TT:Hid (Below W.heap.size W w3):=by obtain ⟨_,h⟩:=Jt;exact h.bV
     clear Jt nc S0 fA cP HF2
     obtain ⟨c0,c1,c2,c3,c4,c5,c6⟩:=dG (ab dX)
     obtain ⟨y0,y1,y2,y3,y4,y5⟩:=ef (ab XZ)
     have XY:Hid (CX=aV (n+1) [⟨#[125]⟩]→∀q,Calls Tryz.prog 26 #[.pointer (some ⟨pg,0,none⟩),.int .i64 ((n:Int)+1),.string ⟨#[125]⟩] (w3.drewN q) (Lm W pg (LB++eg (n+1) os fs i++HX++bR (n+1+1) (⟨aP,key,ty,wH,num,aE⟩:Fd)++CX) (w3.drewN q))):=by
      intro hh q
      obtain ⟨u2,lI⟩:=ab o4
      have h2:=ab OO
      rw[hh,dP] at h2
      have h3:(bR (n+1+1) (⟨aP,key,ty,wH,num,aE⟩:Fd)).length=2*(n+1+1)+(jE (⟨aP,key,ty,wH,num,aE⟩:Fd)).size+1:=by rw[←jK,dP]
      have hG:=da (lI.below (below_drewN (zE w3.heap.size w3) q)) (n+1) ⟨#[125]⟩ (by omega) (by rw[zK];omega)
      rw[←hh] at hG
      push_cast at hG
      exact hG
     go_upto_region 12 with fail
     go_cut [96] (fun v96 wx=>v96=.bool fin∧∃q,wx=w3.drewN q)
     case first =>
      by_cases Zf:i+1=fs.length
      ·have f0:((i:Int)==(fs.length:Int)-1)=true:=beq_iff_eq.2 (by omega)
       have q5:(fs.length:Int)-1=(i:Int):=by omega
       have q6:IntKind.i64.wrap ((fs.length:Int)-1)=(i:Int):=by rw[IntKind.wrap_i64];omega
       have uZ:Hid (fin=true):=(by show _=_;rw[←ab OA,List.getElem?_eq_none (by omega)];exact decide_eq_true (fun e=>by cases e))
       clear Zf
       go_quiet (fail)
       go_wp2_with fail
       go_meet
       exact ⟨by rw[ab uZ],_,rfl⟩
      ·obtain ⟨j,hj⟩:∃j:Nat,i+1=j:=⟨_,rfl⟩
       have Jq:fs[j]?=some fs[j]:=List.getElem?_eq_getElem (by have:=ab bu;omega)
       obtain ⟨nx,na⟩:∃p,fs[j].aE=p:=⟨_,rfl⟩
       have E':Hid ((fs[i+1]?).map Fd.aE=some nx):=by show _=_;rw[hj,Jq];exact congrArg some na
       have xn:=((ab TT).cell (p:=⟨g,o+(j*6+5),none⟩) hg).trans (ab Hcc _ _ ((cz Jq (j:=5) (by decide)).trans rfl))
       rw[←Nat.add_assoc,na] at xn
       obtain ⟨K,hK⟩:∃K:Nat,fs.length-1=K:=⟨_,rfl⟩
       have f0:((i:Int)==(K:Int))=false:=beq_eq_false_iff_ne.2 (by omega)
       have l1:IntKind.i64.wrap ((fs.length:Int)-1)=(K:Int):=by rw[IntKind.wrap_i64];omega
       have l2:(fs.length:Int)-1=(K:Int):=by omega
       have q3:IntKind.i64.wrap ((i:Int)+1)=(j:Int):=by rw[IntKind.wrap_i64];omega
       have j0:(0:Int)≤(j:Int):=zH _
       have j1:(j:Int)<(fs.length:Int):=by have:=ab bu;omega
       have Hj:=al hj
       clear hj Jq na Zf hK
       by_cases Fu:nx=aE
       ·have f1:(nx != aE)=false:=by simpa using Fu
        have f2:(nx==aE)=true:=beq_iff_eq.2 Fu
        have uZ:Hid (fin=false):=(by show _=_;rw[←ab OA,ab E',Fu];exact decide_eq_false (fun k=>k rfl))
        clear Fu
        go_quiet (fail)
        go_wp2_with fail
        go_meet
        exact ⟨by rw[ab uZ],_,rfl⟩
       ·have f1:(nx != aE)=true:=by simpa using Fu
        have f2:(nx==aE)=false:=beq_eq_false_iff_ne.2 Fu
        have uZ:Hid (fin=true):=(by show _=_;rw[←ab OA,ab E'];exact decide_eq_true (fun e=>Fu (zC e)))
        clear Fu
        go_quiet (fail)
        go_wp2_with fail
        go_meet
        exact ⟨by rw[ab uZ],_,rfl⟩
     case rest =>
      obtain ⟨rfl,U5,rfl⟩:=hcut
      cases fin with
      |true =>
       have I5:Hid (CX=aV (n+1) [⟨#[125]⟩]):=ab HCt rfl
       have HG4:=al (ab XY (ab I5))
       go_wp2_with fail
       refine (ab HG4 _).mono ?_
       rintro e w6 ⟨rfl,ZD,Po⟩
       have XK:Hid (∃v,Pg W pg (LB++eg (n+1) os fs (i+1)) v w6):=by show ∃_,_;rw[ab Mt];exact ZD
       have XX:=al (((ab mH).trans (Kp.below (b:=pg) (below_drewN (zE w3.heap.size w3) _))).trans Po)
       have JD:=al (Po _ _ _ _ (ab yz) (show (w3.drewN _).heap[w.heap.size]?=_ from ab dX) (by decide))
       clear ZD Po HG4 y0 y1 y2 y3 y4 y5 c0 c1 c2 c3 c4 c5 c6 XY o4 mH dX XZ
       go_wp2
       go_roundg (fs.length-(i+1))
       case measure=>have:=ab bz;have:=ab bu;omega
       case rel=>exact ⟨i+1,by go_num,rfl,ab bu,XK,XX,JD⟩
      |false =>
       have I5:Hid (CX=[]):=ab S2 rfl
       have XK:Hid (∃v,Pg W pg (LB++eg (n+1) os fs (i+1)) v (w3.drewN U5)):=by show ∃_,_;rw[ab Mt,ab I5,List.append_nil];obtain ⟨u2,lI⟩:=ab o4;exact ⟨u2,lI.below (below_drewN (zE w3.heap.size w3) _)⟩
       have XX:=al ((ab mH).trans (Kp.below (b:=pg) (below_drewN (zE w3.heap.size w3) U5)))
       have JD:=al (show (w3.drewN U5).heap[w.heap.size]?=_ from ab dX)
       clear y0 y1 y2 y3 y4 y5 c0 c1 c2 c3 c4 c5 c6 XY o4 mH dX XZ
       go_wp2
       go_roundg (fs.length-(i+1))
       case measure=>have:=ab bz;have:=ab bu;omega
       case rel=>exact ⟨i+1,by go_num,rfl,ab bu,XK,XX,JD⟩
  ·obtain rfl:i=fs.length:=by omega
   have pb:=al (ab HP)
   rw[Cs] at pb
   have yB:=HK
   have se:=HB
   clear HP HK HB
   obtain ⟨wo2,Vu⟩:∃x,x=wr:=⟨_,rfl⟩
   subst Vu
   go_wp2
   go_loopg [8] ms.length (fun gk v8 wr=>∃(i:Nat),v8=.int .i64 (i:Int)∧gk=ms.length-i∧i≤ms.length∧Hid (∃v,Pg W pg ((LB++(cj fs).flatMap (dD (n+1) os))++(ms.take i).flatMap (fun m=>cl (n+1) aL m.nm (cd f (n+1+1) m))) v wr)∧Hid (Kp pg w wr)∧Hid (wr.heap[w.heap.size]?=some (.cells #[.string nm,.slice af fs.length cf,.slice ao os.length co,.slice am ms.length dh,.slice ae es.length dc,.slice ar rs.length cr,.slice ag gs.length cg] 46 (0,0))))
   case atStart=>exact ⟨0,rfl,rfl,by omega,by show ∃_,_;rw[List.take_zero,List.flatMap_nil,List.append_nil];exact ab pb,yB,se⟩
   case round =>
    obtain ⟨i,rfl,aU,eO,HP,HK,HB⟩:=hrel
    have bz:=al aU
    clear aU pb yB se
    obtain ⟨c0,c1,c2,c3,c4,c5,c6⟩:=dG (ab HB)
    by_cases aM:i<ms.length
    ·obtain ⟨up,xR⟩:=ab HP
     have aS:Below W.heap.size W wr:=xR.bV
     obtain ⟨g,o,rfl,hg,hc⟩:=ab vH (by omega)
     have hl:=List.getElem?_eq_getElem aM
     obtain ⟨t,ht⟩:∃d,ms[i]=d:=⟨_,rfl⟩
     rw[ht] at hl
     obtain ⟨My,Mx,OY,Mz,Ba,Bc,xw,Dt,C8,qH,wM,CZ,Dr,Ix,Jv,dQ,fO⟩:=(ab vJ).at i t hl
     have gP:=al fO
     obtain ⟨E5,EY,rfl,-,-⟩:=fO.hf
     obtain ⟨DE,DB,rfl,-,-⟩:=fO.ho
     obtain ⟨AE,mc,rfl,-,-⟩:=fO.hm
     obtain ⟨E6,pM,rfl,-,-⟩:=fO.he
     obtain ⟨qQ,qN,rfl,-,-⟩:=fO.hr
     obtain ⟨qR,qP,rfl,-,-⟩:=fO.hg
     have key:∀(j:Nat) (x:Value),[Value.string xw,.slice E5 Dt.length EY,.slice DE C8.length DB,.slice AE qH.length mc,.slice E6 wM.length pM,.slice qQ CZ.length qN,.slice qR Dr.length qP][j]?=some x→wr.cell? ⟨g,o+(i*7+j),none⟩=some x:=fun j x hx=>(aS.cell (p:=⟨g,o+(i*7+j),none⟩) hg).trans (hc _ _ (by
      rw[←dQ,List.getElem?_take,List.getElem?_drop] at hx
      split at hx
      ·exact hx
      ·cases hx))
     have x0:wr.cell? ⟨g,o+i*7,none⟩=_:=key 0 _ rfl
     have x1:wr.cell? ⟨g,o+i*7+1,none⟩=_:=key 1 _ rfl
     have x2:wr.cell? ⟨g,o+i*7+2,none⟩=_:=key 2 _ rfl
     have x3:wr.cell? ⟨g,o+i*7+3,none⟩=_:=key 3 _ rfl
     have x4:wr.cell? ⟨g,o+i*7+4,none⟩=_:=key 4 _ rfl
     have x5:wr.cell? ⟨g,o+i*7+5,none⟩=_:=key 5 _ rfl
     have x6:wr.cell? ⟨g,o+i*7+6,none⟩=_:=key 6 _ rfl
     clear hc ht key dQ
     have cG:=List.mem_of_getElem? hl
     have A3:(LB++(cj fs).flatMap (dD (n+1) os))++(ms.take (i+1)).flatMap (fun m=>cl (n+1) aL m.nm (cd f (n+1+1) m))=(LB++(cj fs).flatMap (dD (n+1) os))++(ms.take i).flatMap (fun m=>cl (n+1) aL m.nm (cd f (n+1+1) m))++cl (n+1) aL t.nm (cd f (n+1+1) t):=by rw[bL hl,List.flatMap_append];simp
     have j6:=ft (fun m=>cl (n+1) aL m.nm (cd f (n+1+1) m)) ms (i+1)
     rw[bL hl,List.flatMap_append,zK,show [t].flatMap (fun m=>cl (n+1) aL m.nm (cd f (n+1+1) m))=cl (n+1) aL t.nm (cd f (n+1+1) t) by simp] at j6
     have qw:((LB++(cj fs).flatMap (dD (n+1) os))++(ms.take i).flatMap (fun m=>cl (n+1) aL m.nm (cd f (n+1+1) m))).length+(cl (n+1) aL t.nm (cd f (n+1+1) t)).length≤1099511627776:=by have:=ab HL;rw[zK];rw[zK];omega
     have B7:t.nm=xw:=by rw[(ab gP).is];rfl
     rw[B7] at qw A3
     have HC:=al (ab Fa W wr pg _ up (n+1) t _ _ _ _ _ _ _ _ _ _ _ _ _ _ _ xR (ab HF) (by omega) (ab gP) (ab XM t cG) (ab Mm t cG) qw)
     push_cast at HC
     have s9:=al A3
     have i0:(0:Int)≤(i:Int):=zH _
     have i1:(i:Int)<(ms.length:Int):=by omega
     have bu:=al aM
     clear hl aS aM gP cG A3 j6 qw xR
     go_wp2_with fail
     refine (ab HC).mono ?_
     rintro e w5 ⟨rfl,sw,jx⟩
     have lL:Hid (∃v,Pg W pg ((LB++(cj fs).flatMap (dD (n+1) os))++(ms.take (i+1)).flatMap (fun m=>cl (n+1) aL m.nm (cd f (n+1+1) m))) v w5):=by show ∃_,_;rw[ab s9];exact sw
     have sd:=al ((ab HK).trans jx)
     have u6:=al (jx _ _ _ _ (ab yz) (ab HB) (by decide))
     clear sw jx HC s9 c0 c1 c2 c3 c4 c5 c6
     go_wp2
     go_roundg (ms.length-(i+1))
     case measure=>have:=ab bz;have:=ab bu;omega
     case rel=>exact ⟨i+1,by go_num,rfl,ab bu,lL,sd,u6⟩
    ·obtain rfl:i=ms.length:=by omega
     have pb:=al (ab HP)
     rw[List.take_length] at pb
     have yB:=HK
     have se:=HB
     clear HP HK HB
     obtain ⟨wo3,Vt⟩:∃x,x=wr:=⟨_,rfl⟩
     subst Vt
     go_wp2
     go_loopg [9] es.length (fun gk v9 wr=>∃(i:Nat),v9=.int .i64 (i:Int)∧gk=es.length-i∧i≤es.length∧Hid (∃v,Pg W pg ((LB++(cj fs).flatMap (dD (n+1) os)++ms.flatMap (fun m=>cl (n+1) aL m.nm (cd f (n+1+1) m)))++(es.take i).flatMap (jy (n+1))) v wr)∧Hid (Kp pg w wr)∧Hid (wr.heap[w.heap.size]?=some (.cells #[.string nm,.slice af fs.length cf,.slice ao os.length co,.slice am ms.length dh,.slice ae es.length dc,.slice ar rs.length cr,.slice ag gs.length cg] 46 (0,0))))
     case atStart=>exact ⟨0,rfl,rfl,by omega,by show ∃_,_;rw[List.take_zero,List.flatMap_nil,List.append_nil];exact ab pb,yB,se⟩
     case round =>
      obtain ⟨i,rfl,aU,eO,HP,HK,HB⟩:=hrel
      have bz:=al aU
      clear aU pb yB se
      obtain ⟨c0,c1,c2,c3,c4,c5,c6⟩:=dG (ab HB)
      by_cases aM:i<es.length
      ·obtain ⟨up,xR⟩:=ab HP
       have aS:Below W.heap.size W wr:=xR.bV
       obtain ⟨g,o,rfl,hg,hc⟩:=ab vI (by omega)
       have hl:=List.getElem?_eq_getElem aM
       obtain ⟨t,ht⟩:∃d,es[i]=d:=⟨_,rfl⟩
       rw[ht] at hl
       obtain ⟨vv,Ba,Bc,dQ,rv,rr,rg⟩:=(ab vK).at i t hl
       have gP:=al (And.intro rv (And.intro rr rg))
       obtain ⟨av,cv,rfl,-,-⟩:=rv
       obtain ⟨qQ,qN,rfl,-,-⟩:=rr
       obtain ⟨qR,qP,rfl,-,-⟩:=rg
       have key:∀(j:Nat) (x:Value),[Value.string t.name,.slice av t.aQ.length cv,.slice qQ t.res.length qN,.slice qR t.gone.length qP][j]?=some x→wr.cell? ⟨g,o+(i*4+j),none⟩=some x:=fun j x hx=>(aS.cell (p:=⟨g,o+(i*4+j),none⟩) hg).trans (hc _ _ (by
        rw[←dQ,List.getElem?_take,List.getElem?_drop] at hx
        split at hx
        ·exact hx
        ·cases hx))
       have x0:wr.cell? ⟨g,o+i*4,none⟩=_:=key 0 _ rfl
       have x1:wr.cell? ⟨g,o+i*4+1,none⟩=_:=key 1 _ rfl
       have x2:wr.cell? ⟨g,o+i*4+2,none⟩=_:=key 2 _ rfl
       have x3:wr.cell? ⟨g,o+i*4+3,none⟩=_:=key 3 _ rfl
       clear hc ht key dQ
       have cG:=List.mem_of_getElem? hl
       have A3:(LB++(cj fs).flatMap (dD (n+1) os)++ms.flatMap (fun m=>cl (n+1) aL m.nm (cd f (n+1+1) m)))++(es.take (i+1)).flatMap (jy (n+1))=(LB++(cj fs).flatMap (dD (n+1) os)++ms.flatMap (fun m=>cl (n+1) aL m.nm (cd f (n+1+1) m)))++(es.take i).flatMap (jy (n+1))++jy (n+1) t:=by rw[bL hl,List.flatMap_append];simp
       have j6:=ft (jy (n+1)) es (i+1)
       rw[bL hl,List.flatMap_append,zK,show [t].flatMap (jy (n+1))=jy (n+1) t by simp] at j6
       have qw:((LB++(cj fs).flatMap (dD (n+1) os)++ms.flatMap (fun m=>cl (n+1) aL m.nm (cd f (n+1+1) m)))++(es.take i).flatMap (jy (n+1))).length+(jy (n+1) t).length≤1099511627776:=by have:=ab HL;rw[zK];rw[zK,zK];omega
       have RB:=ab Xu t cG
       have HC:=al (wG xR (ab HF) (n+1) (by omega) (ab gP).1 (ab gP).2.1 (ab gP).2.2 (ab XN t cG) RB.1 RB.2 qw)
       push_cast at HC
       have s9:=al A3
       have i0:(0:Int)≤(i:Int):=zH _
       have i1:(i:Int)<(es.length:Int):=by omega
       have bu:=al aM
       clear hl aS aM gP cG A3 j6 qw xR
       go_wp2_with fail
       refine (ab HC).mono ?_
       rintro e w5 ⟨rfl,sw,jx⟩
       have lL:Hid (∃v,Pg W pg ((LB++(cj fs).flatMap (dD (n+1) os)++ms.flatMap (fun m=>cl (n+1) aL m.nm (cd f (n+1+1) m)))++(es.take (i+1)).flatMap (jy (n+1))) v w5):=by show ∃_,_;rw[ab s9];exact sw
       have sd:=al ((ab HK).trans jx)
       have u6:=al (jx _ _ _ _ (ab yz) (ab HB) (by decide))
       clear sw jx HC s9 c0 c1 c2 c3 c4 c5 c6
       go_wp2
       go_roundg (es.length-(i+1))
       case measure=>have:=ab bz;have:=ab bu;omega
       case rel=>exact ⟨i+1,by go_num,rfl,ab bu,lL,sd,u6⟩
      ·obtain rfl:i=es.length:=by omega
       have pb:=al (ab HP)
       rw[List.take_length] at pb
       have yB:=HK
       have se:=HB
       clear HP HK HB
       obtain ⟨wo4,Vs⟩:∃x,x=wr:=⟨_,rfl⟩
       subst Vs
       obtain ⟨Uj,ZC⟩:=ab pb
       have HG:=al (da ZC n ⟨#[125]⟩ (by omega) (by have:=ab HL;rw[zK,zK,zK];have:(⟨#[125]⟩:ByteArray).size=1:=rfl;omega))
       clear ZC
       go_wp2_with fail
       refine (ab HG).mono ?_
       rintro e w9 ⟨rfl,uT,Zi⟩
       have HP9:=al uT
       have TZ:=al ((ab yB).trans Zi)
       clear uT Zi HG
       go_wp2
       go_end0
       exact ⟨rfl,by rw[ab DN];exact ab HP9,ab TZ⟩
theorem oJ:∀f,Yd f
 |0=>by
  intro W w pg L v n m vf vo vm ve vr vg nm fs os ms es rs gs cm ce _ _ _ _ h
  exact h.elim
 |f+1=>vD (oJ f)
end Go.Proofs.YtichhjfjcinjgaaGreatDoor

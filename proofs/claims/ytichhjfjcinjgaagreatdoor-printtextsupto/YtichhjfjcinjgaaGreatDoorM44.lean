import Derived.Test.YtichhjfjcinjgaaGreatDoorYDh
import Derived.Test.YtichhjfjcinjgaaGreatDoorYDm
set_option maxHeartbeats 8000000
set_option maxRecDepth 100000
namespace Go.Proofs.YtichhjfjcinjgaaGreatDoor
open Go.RowKit
attribute [local go_sem ↓] Go.wp_at_zero Go.wp_at_succ
theorem sR (n:Nat) (a b:ByteArray):aY n [a++⟨#[32]⟩++b++⟨#[32,123]⟩]=aY n [a,⟨#[32]⟩,b,⟨#[32,123]⟩]:=by
 unfold aY
 simp[kM]
theorem AB (n:Nat) (s:ByteArray) (m:Int):aY n [s++⟨#[32,61,32]⟩++bJ m++⟨#[59]⟩]=gG n (s,m):=by
 unfold gG aY gB bC
 simp[kM]
theorem dU (n:Nat) (a:ByteArray):(aY n [a]).length=2*n+a.size+1:=by rw[eT];simp
theorem fC {α:Type} (f:α→List Nat) (l:List α) (i:Nat):((l.take i).flatMap f).length≤(l.flatMap f).length:=by
 have h:=congrArg (fun x=>(List.flatMap f x).length) (List.take_append_drop i l)
 simp only[List.flatMap_append,zK] at h
 omega
theorem xj {W w:World}{pg:Nat}{L:List Nat}{v:Value} (h:Pg W pg L v w) (hF:ir W) (n:Nat) (hn:n+1≤500) {e:En}{vv vr vg:Value} (hv:Rl W vv e.aR.length (rn e.aR)) (hr:Rl W vr e.res.length (lj e.res)) (hg:Rl W vg e.gone.length (cc e.gone)) (ho:JD e) (hz:e.name.size≤255) (da:∀v ∈ e.aR,v.1.size≤255) (hl:L.length+(jO n e).length≤1099511627776) :
  Calls Tryz.prog 29 #[.pointer (some ⟨pg,0,none⟩),.int .i64 (n:Int),.agg #[.string e.name,vv,vr,vg]] w (LZ W pg (L++jO n e) w):=by
 have Qz:=al (fun (w':World) (L':List Nat) (u:Value) (hP:Pg W pg L' u w') (N5:L'.length+(fg (n+1) 2147483647 e.res e.gone).length≤1099511627776)=>AW hP hF (n+1) hn hr hg ho.r2 ho.g2 N5)
 have HOv:=al ho.v2
 obtain ⟨nm,aR,res,gone⟩:=e
 simp only at hv Qz HOv hz da ⊢
 obtain ⟨av,cv,rfl,AR,lv⟩:=hv
 obtain ⟨ar,cr,rfl,-,-⟩:=hr
 obtain ⟨ag,cg,rfl,-,-⟩:=hg
 have JW:=al lv
 have FR:=al da
 have k0:=aJ w (.cells #[.string nm,.slice av aR.length cv,.slice ar res.length cr,.slice ag gone.length cg] 67)
 have bG:Below w.heap.size w (w.alloc (.cells #[.string nm,.slice av aR.length cv,.slice ar res.length cr,.slice ag gone.length cg] 67)):=(zE _ _).alloc (zD _) _
 have zf:Hid (w.heap.size≠pg):=fun e=>by have:=(zA h.dt).1;omega
 obtain ⟨V,hV⟩:∃V,w.alloc (.cells #[.string nm,.slice av aR.length cv,.slice ar res.length cr,.slice ag gone.length cg] 67)=V:=⟨_,rfl⟩
 rw[hV] at k0 bG
 obtain ⟨c0,c1,c2,c3⟩:=aP k0
 have hE:jO n ⟨nm,aR,res,gone⟩=aY n [kO++⟨#[32]⟩++nm++⟨#[32,123]⟩]++(fg (n+1) 2147483647 res gone++aR.flatMap (gG (n+1)))++aY n [⟨#[125]⟩]:=by rw[sR];rfl
 rw[hE] at hl ⊢
 have Ln:L.length+(2*n+(nm.size+7)+1)+(fg (n+1) 2147483647 res gone).length+(aR.flatMap (gG (n+1))).length+(2*n+2)≤1099511627776:=by
  rw[zK,zK,zK,dU,dU,ByteArray.size_append,ByteArray.size_append,ByteArray.size_append] at hl
  have:kO.size=4:=rfl
  have:(⟨#[32]⟩:ByteArray).size=1:=rfl
  have:(⟨#[32,123]⟩:ByteArray).size=2:=rfl
  have:(⟨#[125]⟩:ByteArray).size=1:=rfl
  omega
 have HL:=al Ln
 have yx:=h.below bG
 have hG:=dj yx n (kO++⟨#[32]⟩++nm++⟨#[32,123]⟩) (by omega) (by rw[ByteArray.size_append,ByteArray.size_append,ByteArray.size_append];have:kO.size=4:=rfl;have:(⟨#[32]⟩:ByteArray).size=1:=rfl;have:(⟨#[32,123]⟩:ByteArray).size=2:=rfl;omega)
 have e5:kO++⟨#[32]⟩=(⟨#[101,110,117,109,32]⟩:ByteArray):=rfl
 have HG:=al hG
 rw[e5] at HG
 have z1:((⟨#[101,110,117,109,32]⟩:ByteArray)++nm).size≤300:=by rw[ByteArray.size_append];have:(⟨#[101,110,117,109,32]⟩:ByteArray).size=5:=rfl;omega
 have kA:=al k0
 have F1:Hid (Kp pg w V):=Kp.below bG
 rw[e5]
 obtain ⟨L1,Lx⟩:∃X,L++aY n [⟨#[101,110,117,109,32]⟩++nm++⟨#[32,123]⟩]=X:=⟨_,rfl⟩
 rw[Lx] at HG
 obtain ⟨L2,T0⟩:∃X,L1++fg (n+1) 2147483647 res gone=X:=⟨_,rfl⟩
 have Es:Hid (L++(aY n [⟨#[101,110,117,109,32]⟩++nm++⟨#[32,123]⟩]++(fg (n+1) 2147483647 res gone++aR.flatMap (gG (n+1)))++aY n [⟨#[125]⟩])=(L2++aR.flatMap (gG (n+1)))++aY n [⟨#[125]⟩]):=by show _=_;rw[←T0,←Lx];simp
 have yZ:L1.length=L.length+(2*n+(nm.size+7)+1):=by
  rw[←Lx,zK,dU,ByteArray.size_append,ByteArray.size_append]
  have:(⟨#[101,110,117,109,32]⟩:ByteArray).size=5:=rfl
  have:(⟨#[32,123]⟩:ByteArray).size=2:=rfl
  omega
 have TM:L2.length=L1.length+(fg (n+1) 2147483647 res gone).length:=by rw[←T0,zK]
 have Yv:=al (And.intro yZ TM)
 have HL2:=al T0
 clear lv da hl Ln hE yx hG Lx T0 h bG k0 ho hF yZ TM e5
 go_enter Tryz.func29,Tryz.ntmps29
 go_wp2_with fail
 refine (ab HG).mono ?_
 rintro e w1 ⟨rfl,yx,mf⟩
 have sF:=al (mf _ _ _ _ (ab zf) (ab kA) (by decide))
 have zi:=al ((ab F1).trans mf)
 obtain ⟨u1,yx⟩:=yx
 have sG:=al (ab Qz w1 L1 u1 yx (by have:=ab HL;have:=ab Yv;omega))
 rw[ab HL2] at sG
 push_cast at sG
 clear yx mf HG F1 kA Qz c0 c1 c2 c3 z1
 obtain ⟨c0,c1,c2,c3⟩:=aP (ab sF)
 go_wp2_with fail
 refine (ab sG).mono ?_
 rintro e w2 ⟨rfl,l8,lZ⟩
 have ox:=al (lZ _ _ _ _ (ab zf) (ab sF) (by decide))
 have Ts:=al ((ab zi).trans lZ)
 have Th:=al l8
 clear l8 lZ sG sF zi c0 c1 c2 c3
 go_wp2
 go_loopg [6] aR.length (fun gk v6 wr=>∃(i:Nat),v6=.int .i64 (i:Int)∧gk=aR.length-i∧i≤aR.length∧Hid (∃v,Pg W pg (L2++(aR.take i).flatMap (gG (n+1))) v wr)∧Hid (Kp pg w wr)∧Hid (wr.heap[w.heap.size]?=some (.cells #[.string nm,.slice av aR.length cv,.slice ar res.length cr,.slice ag gone.length cg] 67 (0,0))))
 case atStart=>exact ⟨0,rfl,rfl,by omega,by show ∃_,_;rw[List.take_zero,List.flatMap_nil,List.append_nil];exact ab Th,Ts,ox⟩
 case round =>
  obtain ⟨i,rfl,aW,eV,fH,Tr,fI⟩:=hrel
  have bz:=al aW
  clear aW Th Ts ox
  obtain ⟨c0,c1,c2,c3⟩:=aP (ab fI)
  by_cases aM:i<aR.length
  ·have aT:Below W.heap.size W wr:=by obtain ⟨_,h⟩:=ab fH;exact h.bU
   obtain ⟨g,o,rfl,hg,hc⟩:=ab JW (by omega)
   have hl:=List.getElem?_eq_getElem aM
   obtain ⟨⟨s,m⟩,hs⟩:∃d,aR[i]=d:=⟨_,rfl⟩
   rw[hs] at hl
   have x0:=(aT.cell (p:=⟨g,o+(i*2+0),none⟩) hg).trans (hc _ _ (fL hl (j:=0) (by decide)))
   have x1:=(aT.cell (p:=⟨g,o+(i*2+1),none⟩) hg).trans (hc _ _ (fL hl (j:=1) (by decide)))
   rw[Nat.add_zero] at x0
   rw[←Nat.add_assoc] at x1
   clear hc hs
   have dD:Hid (∀w',Below W.heap.size W w'→w'.cell? ⟨g,o+i*2,none⟩=some (.string s)∧w'.cell? ⟨g,o+i*2+1,none⟩=some (.int .i64 m)):=by
    intro w' hb
    obtain ⟨g2,o2,hgg,ep,oA⟩:=ab JW (by omega)
    obtain ⟨rfl,rfl⟩:g=g2∧o=o2:=by simpa using hgg
    have y0:=(hb.cell (p:=⟨g,o+(i*2+0),none⟩) ep).trans (oA _ _ (fL hl (j:=0) (by decide)))
    have y1:=(hb.cell (p:=⟨g,o+(i*2+1),none⟩) ep).trans (oA _ _ (fL hl (j:=1) (by decide)))
    exact ⟨y0,y1⟩
   have RZ:=ab HOv _ (List.mem_of_getElem? hl)
   have zs:s.size≤255:=ab FR _ (List.mem_of_getElem? hl)
   have HD:=al (fun w=>oI (n:=m) (by have:=RZ.1;simp only at this;omega) (by have:=RZ.2;simp only at this;omega) w)
   have zm:=cU (n:=m) (by have:=RZ.1;simp only at this;omega) (by have:=RZ.2;simp only at this;omega)
   have tJ:Hid (L2++(aR.take (i+1)).flatMap (gG (n+1))=(L2++(aR.take i).flatMap (gG (n+1)))++aY (n+1) [s++⟨#[32,61,32]⟩++bJ m++⟨#[59]⟩]):=by
    show _=_
    rw[bM hl,List.flatMap_append,AB]
    simp
   have Px:Hid ((L2++(aR.take i).flatMap (gG (n+1))).length+2*(n+1)+(s.size+3+(bJ m).size+1)+1≤1099511627776):=by
    have h1:=fC (gG (n+1)) aR (i+1)
    rw[bM hl,List.flatMap_append,zK] at h1
    have h2:([(s,m)].flatMap (gG (n+1))).length=2*(n+1)+(s.size+3+(bJ m).size+1)+1:=by
     simp only[List.flatMap_cons,List.flatMap_nil,List.append_nil]
     rw[←AB,dU,ByteArray.size_append,ByteArray.size_append,ByteArray.size_append]
     rfl
    have h3:=ab HL
    have h4:=ab Yv
    show _≤_
    rw[zK]
    omega
   have z3:(s++⟨#[32,61,32]⟩).size≤300:=by rw[ByteArray.size_append];have:(⟨#[32,61,32]⟩:ByteArray).size=3:=rfl;omega
   have z4:(s++⟨#[32,61,32]⟩++bJ m).size≤400:=by rw[ByteArray.size_append];omega
   have q3:(⟨#[32,61,32]⟩:ByteArray).size=3:=rfl
   have q1:(⟨#[59]⟩:ByteArray).size=1:=rfl
   have i0:(0:Int)≤(i:Int):=zH _
   have i1:(i:Int)<(aR.length:Int):=by omega
   have bu:=al aM
   clear hl aT aM RZ
   go_upto_region 6 with fail
   refine wp_region_any (by kernel_rfl) (bL (z:=99) (T:=fun w'=>w'.heap[w.heap.size]?=some (.cells #[.string nm,.slice (some ⟨g,o,none⟩) aR.length cv,.slice ar res.length cr,.slice ag gone.length cg] 67 (0,0))∧Below W.heap.size W w') _ _ _ _ ?_)
   try (change cd _ _ _ _ _ _ _ _ _ (World.drew _))
   obtain ⟨u,Z4⟩:=ab fH
   have IU:=Z4.below (below_drewN (zE wr.heap.size wr) 1)
   have W2:Kp pg wr wr.drew:=Kp.below (below_drewN (zE wr.heap.size wr) 1)
   change Pg W pg _ _ wr.drew at IU
   have Sw:wr.drew.heap[w.heap.size]?=some (.cells #[.string nm,.slice (some ⟨g,o,none⟩) aR.length cv,.slice ar res.length cr,.slice ag gone.length cg] 67 (0,0)):=ab fI
   obtain ⟨wd,nD⟩:∃x,wr.drew=x:=⟨_,rfl⟩
   rw[nD] at IU W2 Sw ⊢
   have hT:wd.heap[w.heap.size]?=some (.cells #[.string nm,.slice (some ⟨g,o,none⟩) aR.length cv,.slice ar res.length cr,.slice ag gone.length cg] 67 (0,0))∧Below W.heap.size W wd:=⟨Sw,IU.bU⟩
   clear c0 c1 c2 c3 x0 x1
   refine aw 0 (.pointer (some ⟨pg,0,none⟩)) 29 rfl rfl (Or.inl ⟨by rfl,fun w' hw=>by obtain ⟨c0,c1,c2,c3⟩:=aP hw.1;obtain ⟨x0,x1⟩:=ab dD w' hw.2;go_simp⟩) hT ?_
   simp only[Act.put,zL,zM,zN]
   refine aw 1 (.int .i64 (n:Int)) 30 rfl rfl (Or.inl ⟨by rfl,fun w' hw=>by obtain ⟨c0,c1,c2,c3⟩:=aP hw.1;obtain ⟨x0,x1⟩:=ab dD w' hw.2;go_simp⟩) hT ?_
   simp only[Act.put,zL,zM,zN]
   refine aw 2 (.int .i64 ((n:Int)+1)) 31 rfl rfl (Or.inl ⟨by rfl,fun w' hw=>by obtain ⟨c0,c1,c2,c3⟩:=aP hw.1;obtain ⟨x0,x1⟩:=ab dD w' hw.2;go_simp;try exact IntWalk.i64_in _ (by omega)⟩) hT ?_
   simp only[Act.put,zL,zM,zN]
   refine aw 3 (.pointer (some ⟨w.heap.size,1,none⟩)) 32 rfl rfl (Or.inl ⟨by rfl,fun w' hw=>by obtain ⟨c0,c1,c2,c3⟩:=aP hw.1;obtain ⟨x0,x1⟩:=ab dD w' hw.2;go_simp⟩) hT ?_
   simp only[Act.put,zL,zM,zN]
   refine aw 4 (.slice (some ⟨g,o,none⟩) aR.length cv) 33 rfl rfl (Or.inl ⟨by rfl,fun w' hw=>by obtain ⟨c0,c1,c2,c3⟩:=aP hw.1;obtain ⟨x0,x1⟩:=ab dD w' hw.2;go_simp⟩) hT ?_
   simp only[Act.put,zL,zM,zN]
   refine aw 5 (.int .i64 (i:Int)) 34 rfl rfl (Or.inl ⟨by rfl,fun w' hw=>by obtain ⟨c0,c1,c2,c3⟩:=aP hw.1;obtain ⟨x0,x1⟩:=ab dD w' hw.2;go_simp⟩) hT ?_
   simp only[Act.put,zL,zM,zN]
   refine aw 6 (.pointer (some ⟨g,o+i*2,none⟩)) 35 rfl rfl (Or.inl ⟨by rfl,fun w' hw=>by obtain ⟨c0,c1,c2,c3⟩:=aP hw.1;obtain ⟨x0,x1⟩:=ab dD w' hw.2;go_simp⟩) hT ?_
   simp only[Act.put,zL,zM,zN]
   refine aw 7 (.pointer (some ⟨g,o+i*2,none⟩)) 36 rfl rfl (Or.inl ⟨by rfl,fun w' hw=>by obtain ⟨c0,c1,c2,c3⟩:=aP hw.1;obtain ⟨x0,x1⟩:=ab dD w' hw.2;go_simp⟩) hT ?_
   simp only[Act.put,zL,zM,zN]
   refine aw 8 (.string s) 37 rfl rfl (Or.inl ⟨by rfl,fun w' hw=>by obtain ⟨c0,c1,c2,c3⟩:=aP hw.1;obtain ⟨x0,x1⟩:=ab dD w' hw.2;go_simp⟩) hT ?_
   simp only[Act.put,zL,zM,zN]
   refine aw 9 (.string (s++⟨#[32,61,32]⟩)) 38 rfl rfl (Or.inl ⟨by rfl,fun w' hw=>by obtain ⟨c0,c1,c2,c3⟩:=aP hw.1;obtain ⟨x0,x1⟩:=ab dD w' hw.2;go_simp;try omega⟩) hT ?_
   simp only[Act.put,zL,zM,zN]
   refine aw 10 (.pointer (some ⟨w.heap.size,1,none⟩)) 39 rfl rfl (Or.inl ⟨by rfl,fun w' hw=>by obtain ⟨c0,c1,c2,c3⟩:=aP hw.1;obtain ⟨x0,x1⟩:=ab dD w' hw.2;go_simp⟩) hT ?_
   simp only[Act.put,zL,zM,zN]
   refine aw 11 (.slice (some ⟨g,o,none⟩) aR.length cv) 40 rfl rfl (Or.inl ⟨by rfl,fun w' hw=>by obtain ⟨c0,c1,c2,c3⟩:=aP hw.1;obtain ⟨x0,x1⟩:=ab dD w' hw.2;go_simp⟩) hT ?_
   simp only[Act.put,zL,zM,zN]
   refine aw 12 (.int .i64 (i:Int)) 41 rfl rfl (Or.inl ⟨by rfl,fun w' hw=>by obtain ⟨c0,c1,c2,c3⟩:=aP hw.1;obtain ⟨x0,x1⟩:=ab dD w' hw.2;go_simp⟩) hT ?_
   simp only[Act.put,zL,zM,zN]
   refine aw 13 (.pointer (some ⟨g,o+i*2,none⟩)) 42 rfl rfl (Or.inl ⟨by rfl,fun w' hw=>by obtain ⟨c0,c1,c2,c3⟩:=aP hw.1;obtain ⟨x0,x1⟩:=ab dD w' hw.2;go_simp⟩) hT ?_
   simp only[Act.put,zL,zM,zN]
   refine aw 14 (.pointer (some ⟨g,o+i*2+1,none⟩)) 43 rfl rfl (Or.inl ⟨by rfl,fun w' hw=>by obtain ⟨c0,c1,c2,c3⟩:=aP hw.1;obtain ⟨x0,x1⟩:=ab dD w' hw.2;go_simp⟩) hT ?_
   simp only[Act.put,zL,zM,zN]
   refine aw 15 (.int .i64 m) 44 rfl rfl (Or.inl ⟨by rfl,fun w' hw=>by obtain ⟨c0,c1,c2,c3⟩:=aP hw.1;obtain ⟨x0,x1⟩:=ab dD w' hw.2;go_simp⟩) hT ?_
   simp only[Act.put,zL,zM,zN]
   refine aF 16 (by kernel_rfl) rfl (fun K hK=>?_)
   refine aO 45 rfl rfl 59 (fun vs=>by kernel_rfl) #[.tmp 44] #[3] rfl #[.int .i64 m] (by first|rfl|simp[Act.eval]) (ab HD wd) ?_
   rintro e' w4 ⟨rfl,aS⟩
   have J':=IU.below aS
   have Z8:Kp pg wd w4:=Kp.below aS
   have hT:w4.heap[w.heap.size]?=some (.cells #[.string nm,.slice (some ⟨g,o,none⟩) aR.length cv,.slice ar res.length cr,.slice ag gone.length cg] 67 (0,0))∧Below W.heap.size W w4:=⟨(aS.block _ (zA Sw).1).trans Sw,J'.bU⟩
   refine ⟨_,rfl,hK _ _ ⟨fun _=>hT,?_⟩⟩
   clear hK K aS
   simp only[Act.put,zL,zM,zN]
   refine aw 17 (.string (s++⟨#[32,61,32]⟩++bJ m)) 46 rfl rfl (Or.inl ⟨by rfl,fun w' hw=>by obtain ⟨c0,c1,c2,c3⟩:=aP hw.1;obtain ⟨x0,x1⟩:=ab dD w' hw.2;go_simp;try omega⟩) hT ?_
   simp only[Act.put,zL,zM,zN]
   refine aw 18 (.string (s++⟨#[32,61,32]⟩++bJ m++⟨#[59]⟩)) 47 rfl rfl (Or.inl ⟨by rfl,fun w' hw=>by obtain ⟨c0,c1,c2,c3⟩:=aP hw.1;obtain ⟨x0,x1⟩:=ab dD w' hw.2;go_simp;try omega⟩) hT ?_
   simp only[Act.put,zL,zM,zN]
   refine aF 19 (by kernel_rfl) rfl (fun K hK=>?_)
   have hG:=dj J' (n+1) (s++⟨#[32,61,32]⟩++bJ m++⟨#[59]⟩) (by omega) (by have:=ab Px;rw[ByteArray.size_append,ByteArray.size_append,ByteArray.size_append];have:(⟨#[32,61,32]⟩:ByteArray).size=3:=rfl;have:(⟨#[59]⟩:ByteArray).size=1:=rfl;omega)
   refine aO 48 rfl rfl 26 (fun vs=>by kernel_rfl) #[.tmp 29,.tmp 31,.tmp 47] #[57,3,9] rfl #[.pointer (some ⟨pg,0,none⟩),.int .i64 ((n:Int)+1),.string (s++⟨#[32,61,32]⟩++bJ m++⟨#[59]⟩)] (by first|rfl|simp[Act.eval]) (by first|exact hG|(push_cast at hG;exact hG)) ?_
   rintro e' w5 ⟨rfl,sV,W3⟩
   have uV:=W3 _ _ _ _ (ab zf) hT.1 (by decide)
   refine ⟨_,rfl,hK _ _ ⟨fun _=>⟨uV,by obtain ⟨_,h⟩:=sV;exact h.bU⟩,?_⟩⟩
   clear hK K hT hG
   refine a8 (by kernel_rfl) ?_
   have ma:Hid (∃v,Pg W pg (L2++(aR.take (i+1)).flatMap (gG (n+1))) v w5):=by rw[ab tJ];exact sV
   have sH:=al ((((ab Tr).trans W2).trans Z8).trans W3)
   have Pl:=al uV
   clear sV W3 uV IU W2 Sw J' Z8 Z4
   go_wp2
   go_roundg (aR.length-(i+1))
   case measure=>have:=ab bz;have:=ab bu;omega
   case rel=>exact ⟨i+1,by go_num,rfl,ab bu,ma,sH,Pl⟩
  ·obtain rfl:i=aR.length:=by omega
   obtain ⟨u,hP⟩:=ab fH
   rw[List.take_length] at hP
   have HG:=al (dj hP n ⟨#[125]⟩ (by omega) (by have:=ab HL;have:=ab Yv;rw[zK];have:(⟨#[125]⟩:ByteArray).size=1:=rfl;omega))
   clear hP
   go_wp2_with fail
   refine (ab HG).mono ?_
   rintro e w5 ⟨rfl,sV,jN⟩
   have ma:=al sV
   have sH:=al ((ab Tr).trans jN)
   clear sV jN HG
   go_wp2
   go_end0
   exact ⟨rfl,by rw[ab Es];exact ab ma,ab sH⟩
end Go.Proofs.YtichhjfjcinjgaaGreatDoor
namespace Go.Proofs.YtichhjfjcinjgaaGreatDoor
def uG (gs:List (List Fd)):Int:=match gs[gs.length-1]? with
 |some (a::_)=>a.aE
 |_=>0
theorem wZ (gs:List (List Fd)) (a:Fd) (q:List Fd):uG (gs++[a::q])=a.aE:=by simp[uG]
theorem xi {gs:List (List Fd)}{d:Fd} (h:l9 gs d=true):∃a c q,gs=a++[c::q]∧c.aE≠0∧c.aE=d.aE∧np gs d=a++[(c::q)++[d]]:=by
 have TT:=h
 unfold l9 at h
 have iP:gs≠[]:=by rintro rfl;simp at h
 obtain ⟨G,a,rfl⟩:∃G a,gs=a++[G]:=⟨_,_,(List.dropLast_concat_getLast iP).symm⟩
 cases G with
 |nil=>simp at h
 |cons c q =>
  have h2:c.aE≠0∧c.aE=d.aE:=by simpa[uI] using h
  refine ⟨a,c,q,rfl,h2.1,h2.2,?_⟩
  unfold np
  rw[if_pos TT]
  simp
theorem yB {gs:List (List Fd)}{d:Fd} (h:¬l9 gs d=true):np gs d=gs++[([d])]:=by unfold np;rw[if_neg h]
theorem p9 {gs:List (List Fd)}{d:Fd}:l9 gs d=true↔uG gs≠0∧uG gs=d.aE:=by
 unfold l9 uG
 cases gs[gs.length-1]? with
 |none=>simp
 |some G =>
  cases G with
  |nil=>simp
  |cons a q=>simp[uI]
theorem wY (fs:List Fd):∀i,i≤fs.length→uG (cl (fs.take i))=fh fs i:=by
 intro i
 induction i with
 |zero=>intro _;rfl
 |succ i ih =>
  intro h
  have hl:fs[i]?=some fs[i]:=List.getElem?_eq_getElem (by omega)
  have hp:fh fs (i+1)=fs[i].aE:=by unfold fh;simp only;rw[hl]
  rw[ig hl,hp]
  by_cases hc:l9 (cl (fs.take i)) fs[i]=true
  ·obtain ⟨a,c,q,-,-,h3,h4⟩:=xi hc
   rw[h4]
   show uG (a++[c::(q++[fs[i]])])=_
   rw[wZ,h3]
  ·rw[yB hc,wZ]
def Fm (n:Nat) (os:List ByteArray) (G:List Fd):List Nat:=match G with
 |[]=>[]
 |d::_=>aY n [ia,⟨#[32]⟩,os.getD (d.aE.toNat-1) ⟨#[]⟩,⟨#[32,123]⟩]++G.flatMap (bT (n+1))
def eg (n:Nat) (os:List ByteArray) (fs:List Fd) (i:Nat):List Nat:=if fh fs i≠0∧(fs[i]?).map Fd.aE=some (fh fs i) then ((cl (fs.take i)).dropLast.flatMap (dH n os))++Fm n os ((cl (fs.take i)).getLastD []) else (cl (fs.take i)).flatMap (dH n os)
theorem CQ {n:Nat}{os:List ByteArray}{c:Fd}{q:List Fd} (h:c.aE≠0):dH n os (c::q)=Fm n os (c::q)++aY n [⟨#[125]⟩]:=by
 unfold dH Fm ct
 simp only
 rw[if_pos h]
theorem Xe (n:Nat) (os:List ByteArray) (fs:List Fd):eg n os fs 0=[]:=by
 unfold eg
 rw[if_neg (fun h=>h.1 rfl)]
 rfl
theorem C3 (n:Nat) (os:List ByteArray) (fs:List Fd):eg n os fs fs.length=(cl fs).flatMap (dH n os):=by
 unfold eg
 rw[if_neg (fun h=>by have:=h.2;rw[List.getElem?_eq_none (zD _)] at this;cases this),List.take_length]
theorem yF {n:Nat}{os:List ByteArray}{fs:List Fd}{i:Nat}{d:Fd} (h:fs[i]?=some d) (h0:d.aE=0):eg n os fs (i+1)=eg n os fs i++bT n d:=by
 have hi:=(zB h).1
 have hp:fh fs (i+1)=d.aE:=by unfold fh;simp only;rw[h]
 have hl:=wY fs i (by omega)
 have hc:¬l9 (cl (fs.take i)) d=true:=fun k=>by have:=p9.1 k;rw[h0] at this;exact this.1 this.2
 have e1:eg n os fs (i+1)=(cl (fs.take (i+1))).flatMap (dH n os):=by unfold eg;rw[if_neg (fun k=>k.1 (hp.trans h0))]
 have e2:eg n os fs i=(cl (fs.take i)).flatMap (dH n os):=by
  unfold eg
  rw[if_neg]
  rintro ⟨k1,k2⟩
  rw[h] at k2
  exact k1 ((zC k2).symm.trans h0)
 rw[e1,e2,ig h,yB hc,List.flatMap_append]
 congr 1
 simp[dH,h0]
theorem Ja {n:Nat}{os:List ByteArray}{fs:List Fd}{i:Nat}{d:Fd} (h:fs[i]?=some d) (h0:d.aE≠0) :
  eg n os fs (i+1)=eg n os fs i++(if fh fs i≠d.aE then aY n [ia,⟨#[32]⟩,os.getD (d.aE.toNat-1) ⟨#[]⟩,⟨#[32,123]⟩] else [])++bT (n+1) d++(if (fs[i+1]?).map Fd.aE≠some d.aE then aY n [⟨#[125]⟩] else []):=by
 have hi:=(zB h).1
 have hp:fh fs (i+1)=d.aE:=by unfold fh;simp only;rw[h]
 have hl:=wY fs i (by omega)
 have key:∃a c q,cl (fs.take (i+1))=a++[c::q]∧c.aE≠0∧a.flatMap (dH n os)++Fm n os (c::q)=eg n os fs i++(if fh fs i≠d.aE then aY n [ia,⟨#[32]⟩,os.getD (d.aE.toNat-1) ⟨#[]⟩,⟨#[32,123]⟩] else [])++bT (n+1) d:=by
  rw[ig h]
  by_cases hb:fh fs i=d.aE
  ·have hc:l9 (cl (fs.take i)) d=true:=p9.2 ⟨by rw[hl,hb];exact h0,hl.trans hb⟩
   obtain ⟨a,c,q,e1,e2,-,e4⟩:=xi hc
   refine ⟨a,c,q++[d],e4,e2,?_⟩
   rw[if_neg (fun k=>k hb)]
   unfold eg
   rw[if_pos ⟨by rw[hb];exact h0,by rw[h,hb];rfl⟩,e1,List.dropLast_concat]
   simp[Fm]
  ·have hc:¬l9 (cl (fs.take i)) d=true:=fun k=>hb (by rw[←hl];exact (p9.1 k).2)
   refine ⟨_,d,[],yB hc,h0,?_⟩
   rw[if_pos hb]
   have e2:eg n os fs i=(cl (fs.take i)).flatMap (dH n os):=by
    unfold eg
    rw[if_neg]
    rintro ⟨k1,k2⟩
    rw[h] at k2
    exact hb (zC k2).symm
   rw[e2]
   simp[Fm]
 obtain ⟨a,c,q,k1,k2,k3⟩:=key
 rw[←k3]
 unfold eg
 rw[hp,k1]
 by_cases hn:(fs[i+1]?).map Fd.aE=some d.aE
 ·rw[if_pos ⟨h0,hn⟩,if_neg (fun k=>k hn),List.dropLast_concat,List.append_nil]
  simp
 ·rw[if_neg (fun k=>hn k.2),if_pos hn,List.flatMap_append,List.append_assoc]
  congr 1
  simp only[List.flatMap_cons,List.flatMap_nil,List.append_nil]
  exact CQ k2
theorem ML (n:Nat) (os:List ByteArray) (fs:List Fd):∀k i,i+k≤fs.length→(eg n os fs i).length≤(eg n os fs (i+k)).length:=by
 have step:∀i,i<fs.length→(eg n os fs i).length≤(eg n os fs (i+1)).length:=by
  intro i hi
  have h:fs[i]?=some fs[i]:=List.getElem?_eq_getElem hi
  by_cases h0:fs[i].aE=0
  ·rw[yF h h0,zK];omega
  ·rw[Ja h h0,zK,zK,zK];omega
 intro k
 induction k with
 |zero=>intro i _;exact zD _
 |succ k ih=>intro i h;exact Nat.le_trans (ih i (by omega)) (step (i+k) (by omega))
theorem uD (n:Nat) (x:Int):ks n x=if (n:Int)≤x then some (x-n) else none:=by
 unfold ks
 by_cases h:(n:Int)≤x
 ·rw[if_pos (by omega),if_pos h]
 ·rw[if_neg (by omega),if_neg h]
theorem pA {α:Type}{q:α→Int→Option Int}{p:α→Bool}{c:α→Nat}:∀(l:List α),(∀a ∈ l,∀x,0≤x→q a x=if p a=true∧(c a:Int)≤x then some (x-c a) else none)→∀x,0≤x→kc q l x=if l.all p=true∧(bE c l:Int)≤x then some (x-bE c l) else none
 |[],_,x,hx=>by
  unfold kc bE
  rw[if_pos ⟨rfl,by omega⟩]
  simp
 |a::l,h,x,hx=>by
  have ih:=pA l (fun b hb=>h b (zF _ hb))
  unfold kc
  rw[h a (List.mem_cons_self ..) x hx,List.all_cons]
  have hs:(bE c (a::l):Int)=c a+bE c l:=by rw[bE];push_cast;rfl
  rw[hs]
  by_cases hp:p a=true
  ·by_cases hc:(c a:Int)≤x
   ·rw[if_pos ⟨hp,hc⟩]
    simp only
    rw[ih _ (by omega),hp,Bool.true_and]
    by_cases h2:l.all p=true∧(bE c l:Int)≤x-c a
    ·rw[if_pos h2,if_pos ⟨h2.1,by omega⟩]
     congr 1
     omega
    ·rw[if_neg h2,if_neg (fun h3=>h2 ⟨h3.1,by omega⟩)]
   ·rw[if_neg (fun k=>hc k.2),if_neg (fun k=>hc (by have:=k.2;omega))]
  ·rw[if_neg (fun k=>hp k.1),if_neg (fun k=>by simp[hp] at k)]
def Eb (e:En):Nat:=e.aR.length+e.res.length+e.gone.length
def Bt:Nat→Ms→Nat
 |0,_=>0
 |f+1,.mk _ fs os ms es rs gs=>fs.length+os.length+ms.length+es.length+rs.length+gs.length+bE (Bt f) ms+bE Eb es
theorem A2 (e:En) (x:Int):iL e x=if bc e=true∧(Eb e:Int)≤x then some (x-Eb e) else none:=by
 unfold iL
 rw[uD]
 show (match (if ((Eb e:Nat):Int)≤x then some (x-(Eb e:Nat)) else none) with|none=>none|some x1=>if bc e=true then some x1 else none)=_
 by_cases h:(Eb e:Int)≤x
 ·rw[if_pos h]
  by_cases h2:bc e=true
  ·rw[if_pos ⟨h2,h⟩];simp only;rw[if_pos h2]
  ·rw[if_neg (fun k=>h2 k.1)];simp only;rw[if_neg h2]
 ·rw[if_neg h,if_neg (fun k=>h k.2)]
theorem KW (nm:ByteArray) (fs:List Fd) (os:List ByteArray) (rs:List (Int×Int)) (gs:List ByteArray) (b:Bool):(bD nm&&((rs.all (gC 1 536870911)&&gs.all bD)&&(Bs fs os.length&&(os.all bD&&(fs.all cL&&b)))))=(uB nm fs os rs gs&&b):=by
 unfold uB
 cases bD nm<;>cases os.all bD<;>cases fs.all cL<;>cases Bs fs os.length<;>cases rs.all (gC 1 536870911)<;>cases gs.all bD<;>cases b<;>rfl
theorem H7:∀(f:Nat) (m:Ms) (x:Int),0≤x→oa f m x=if ib f m=true∧(Bt f m:Int)≤x then some (x-Bt f m) else none
 |0,_,x,_=>by
  unfold oa ib
  rw[if_neg (fun k=>by cases k.1)]
 |f+1,.mk nm fs os ms es rs gs,x,hx=>by
  have h1:=pA (q:=oa f) (p:=ib f) (c:=Bt f) ms (fun m _ x hx=>H7 f m x hx)
  have h2:=pA (q:=iL) (p:=bc) (c:=Eb) es (fun e _ x _=>A2 e x)
  obtain ⟨k,hk⟩:∃k,fs.length+os.length+ms.length+es.length+rs.length+gs.length=k:=⟨_,rfl⟩
  have hM:Bt (f+1) (.mk nm fs os ms es rs gs)=k+bE (Bt f) ms+bE Eb es:=by rw[←hk];rfl
  have hB:ib (f+1) (.mk nm fs os ms es rs gs)=(uB nm fs os rs gs&&(es.all bc&&ms.all (ib f))):=KW nm fs os rs gs _
  rw[hM,hB,oa,hk,uD]
  by_cases c1:(k:Int)≤x
  ·rw[if_pos c1]
   simp only
   by_cases c2:uB nm fs os rs gs=true
   ·rw[if_pos c2,h1 _ (by omega),c2,Bool.true_and]
    by_cases c3:ms.all (ib f)=true∧(bE (Bt f) ms:Int)≤x-k
    ·rw[if_pos c3]
     simp only
     rw[h2 _ (by omega),c3.1,Bool.and_true]
     by_cases c4:es.all bc=true∧(bE Eb es:Int)≤x-k-bE (Bt f) ms
     ·rw[if_pos c4,if_pos ⟨c4.1,by push_cast;omega⟩]
      congr 1
      push_cast
      omega
     ·rw[if_neg c4,if_neg (fun h=>c4 ⟨h.1,by have:=h.2;push_cast at this;omega⟩)]
    ·rw[if_neg c3,if_neg]
     rintro ⟨h3,h4⟩
     rw[Bool.and_eq_true] at h3
     exact c3 ⟨h3.2,by push_cast at h4;omega⟩
   ·rw[if_neg c2,if_neg]
    rintro ⟨h3,-⟩
    rw[Bool.and_eq_true] at h3
    exact c2 h3.1
  ·rw[if_neg c1,if_neg (fun h=>c1 (by have:=h.2;push_cast at this;omega))]
theorem sL {α:Type}{c d:α→Nat}:∀(l:List α),(∀a ∈ l,c a=1+d a)→bE c l=l.length+bE d l
 |[],_=>rfl
 |a::l,h=>by
  rw[bE,bE,h a (List.mem_cons_self ..),sL l (fun b hb=>h b (zF _ hb)),List.length_cons]
  omega
theorem I9 (l:List En):bE kF l=l.length+bE Eb l:=sL l (fun e _=>by unfold kF Eb;omega)
theorem Ef:∀(f:Nat) (m:Ms),ib f m=true→cR f m=1+Bt f m
 |0,_,h=>by cases h
 |f+1,.mk nm fs os ms es rs gs,h=>by
  unfold ib at h
  simp only[Bool.and_eq_true] at h
  have h1:=sL (c:=cR f) (d:=Bt f) ms (fun m hm=>Ef f m (List.all_eq_true.1 h.2.2.2.2.2.2 m hm))
  have h2:=I9 es
  unfold cR Bt
  omega
theorem CY (F:Fl):(lU F).isSome=D8 F:=by
 unfold lU D8
 cases hp:(F.jr.toList.isEmpty ||dA F.jr) with
 |false=>rw[if_neg (by decide)];rfl
 |true =>
  rw[if_pos rfl,Bool.true_and,uD]
  have h1:=pA (q:=oa 32) (p:=ib 32) (c:=Bt 32) F.ms (fun m _ x hx=>H7 32 m x hx)
  have h2:=pA (q:=iL) (p:=bc) (c:=Eb) F.es (fun e _ x _=>A2 e x)
  have h3:=I9 F.es
  by_cases c0:F.cX.all du=true
  ·rw[c0,Bool.true_and]
   by_cases c1:F.ms.all (ib 32)=true
   ·have h4:=sL (c:=cR 32) (d:=Bt 32) F.ms (fun m hm=>Ef 32 m (List.all_eq_true.1 c1 m hm))
    rw[c1,Bool.true_and]
    have hN:kG F=F.cX.length+F.ms.length+F.es.length+bE (Bt 32) F.ms+bE Eb F.es:=by unfold kG;omega
    rw[hN]
    by_cases c2:((F.cX.length+F.ms.length+F.es.length:Nat):Int)≤4096
    ·rw[if_pos c2]
     simp only
     rw[if_pos trivial,h1 _ (by omega),c1]
     by_cases c3:(bE (Bt 32) F.ms:Int)≤4096-((F.cX.length+F.ms.length+F.es.length:Nat):Int)
     ·rw[if_pos ⟨rfl,c3⟩]
      simp only
      rw[h2 _ (by omega)]
      cases c4:F.es.all bc with
      |false=>rw[if_neg (fun h=>by cases h.1)];rfl
      |true =>
       rw[Bool.true_and]
       by_cases c5:(bE Eb F.es:Int)≤4096-((F.cX.length+F.ms.length+F.es.length:Nat):Int)-bE (Bt 32) F.ms
       ·rw[if_pos ⟨rfl,c5⟩,decide_eq_true (by omega)];rfl
       ·rw[if_neg (fun h=>c5 h.2),decide_eq_false (by omega)];rfl
     ·rw[if_neg (fun h=>c3 h.2),decide_eq_false (by omega),Bool.and_false];rfl
    ·rw[if_neg c2,decide_eq_false (by omega),Bool.and_false];rfl
   ·have LS:F.ms.all (ib 32)=false:=by cases h:F.ms.all (ib 32) with|false=>rfl|true=>exact absurd h c1
    rw[LS,Bool.false_and]
    split
    ·rfl
    ·rename_i x1 F'
     have Cx:0≤x1:=by
      split at F'
      ·obtain rfl:=zC F';omega
      ·cases F'
     rw[if_pos rfl,h1 _ Cx,LS,if_neg (fun h=>by cases h.1)]
     rfl
  ·have c0':F.cX.all du=false:=by cases h:F.cX.all du with|false=>rfl|true=>exact absurd h c0
   rw[c0',Bool.false_and]
   split
   ·rfl
   ·rw[if_neg (by decide)];rfl
end Go.Proofs.YtichhjfjcinjgaaGreatDoor

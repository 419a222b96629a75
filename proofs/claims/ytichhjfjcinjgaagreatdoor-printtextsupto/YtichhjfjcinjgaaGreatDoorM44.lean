import Derived.Test.YtichhjfjcinjgaaGreatDoorYDh
import Derived.Test.YtichhjfjcinjgaaGreatDoorYDm
set_option maxHeartbeats 8000000
set_option maxRecDepth 100000
namespace Go.Proofs.YtichhjfjcinjgaaGreatDoor
open Go.RowKit
attribute [local go_sem ↓] Go.wp_at_zero Go.wp_at_succ
theorem sr (n:Nat) (a b:ByteArray):aV n [a++⟨#[32]⟩++b++⟨#[32,123]⟩]=aV n [a,⟨#[32]⟩,b,⟨#[32,123]⟩]:=by
 unfold aV
 simp[ks]
theorem zT (n:Nat) (s:ByteArray) (m:Int):aV n [s++⟨#[32,61,32]⟩++bH m++⟨#[59]⟩]=gu n (s,m):=by
 unfold gu aV ga bC
 simp[ks]
theorem dP (n:Nat) (a:ByteArray):(aV n [a]).length=2*n+a.size+1:=by rw[eN];simp
theorem ft {α:Type} (f:α→List Nat) (l:List α) (i:Nat):((l.take i).flatMap f).length≤(l.flatMap f).length:=by
 have h:=congrArg (fun x=>(List.flatMap f x).length) (List.take_append_drop i l)
 simp only[List.flatMap_append,zK] at h
 omega
theorem wG {W w:World}{pg:Nat}{L:List Nat}{v:Value} (h:Pg W pg L v w) (hF:jw W) (n:Nat) (hn:n+1≤500) {e:En}{vv vr vg:Value} (hv:Rl W vv e.aQ.length (qM e.aQ)) (hr:Rl W vr e.res.length (kO e.res)) (hg:Rl W vg e.gone.length (bY e.gone)) (ho:IV e) (hz:e.name.size≤255) (dY:∀v ∈ e.aQ,v.1.size≤255) (hl:L.length+(jy n e).length≤1099511627776) :
  Calls Tryz.prog 29 #[.pointer (some ⟨pg,0,none⟩),.int .i64 (n:Int),.agg #[.string e.name,vv,vr,vg]] w (Lm W pg (L++jy n e) w):=by
 have P0:=al (fun (w':World) (L':List Nat) (u:Value) (hP:Pg W pg L' u w') (Nu:L'.length+(eW (n+1) 2147483647 e.res e.gone).length≤1099511627776)=>Ao hP hF (n+1) hn hr hg ho.r2 ho.g2 Nu)
 have HOv:=al ho.v2
 obtain ⟨nm,aQ,res,gone⟩:=e
 simp only at hv P0 HOv hz dY ⊢
 obtain ⟨av,cv,rfl,Ag,lv⟩:=hv
 obtain ⟨ar,cr,rfl,-,-⟩:=hr
 obtain ⟨ag,cg,rfl,-,-⟩:=hg
 have I':=al lv
 have E9:=al dY
 have k0:=aK w (.cells #[.string nm,.slice av aQ.length cv,.slice ar res.length cr,.slice ag gone.length cg] 67)
 have bJ:Below w.heap.size w (w.alloc (.cells #[.string nm,.slice av aQ.length cv,.slice ar res.length cr,.slice ag gone.length cg] 67)):=(zE _ _).alloc (zD _) _
 have yz:Hid (w.heap.size≠pg):=fun e=>by have:=(zA h.dj).1;omega
 obtain ⟨V,hV⟩:∃V,w.alloc (.cells #[.string nm,.slice av aQ.length cv,.slice ar res.length cr,.slice ag gone.length cg] 67)=V:=⟨_,rfl⟩
 rw[hV] at k0 bJ
 obtain ⟨c0,c1,c2,c3⟩:=a8 k0
 have hE:jy n ⟨nm,aQ,res,gone⟩=aV n [ku++⟨#[32]⟩++nm++⟨#[32,123]⟩]++(eW (n+1) 2147483647 res gone++aQ.flatMap (gu (n+1)))++aV n [⟨#[125]⟩]:=by rw[sr];rfl
 rw[hE] at hl ⊢
 have KH:L.length+(2*n+(nm.size+7)+1)+(eW (n+1) 2147483647 res gone).length+(aQ.flatMap (gu (n+1))).length+(2*n+2)≤1099511627776:=by
  rw[zK,zK,zK,dP,dP,ByteArray.size_append,ByteArray.size_append,ByteArray.size_append] at hl
  have:ku.size=4:=rfl
  have:(⟨#[32]⟩:ByteArray).size=1:=rfl
  have:(⟨#[32,123]⟩:ByteArray).size=2:=rfl
  have:(⟨#[125]⟩:ByteArray).size=1:=rfl
  omega
 have HL:=al KH
 have xS:=h.below bJ
 have hG:=da xS n (ku++⟨#[32]⟩++nm++⟨#[32,123]⟩) (by omega) (by rw[ByteArray.size_append,ByteArray.size_append,ByteArray.size_append];have:ku.size=4:=rfl;have:(⟨#[32]⟩:ByteArray).size=1:=rfl;have:(⟨#[32,123]⟩:ByteArray).size=2:=rfl;omega)
 have e5:ku++⟨#[32]⟩=(⟨#[101,110,117,109,32]⟩:ByteArray):=rfl
 have HG:=al hG
 rw[e5] at HG
 have z1:((⟨#[101,110,117,109,32]⟩:ByteArray)++nm).size≤300:=by rw[ByteArray.size_append];have:(⟨#[101,110,117,109,32]⟩:ByteArray).size=5:=rfl;omega
 have j9:=al k0
 have Fg:Hid (Kp pg w V):=Kp.below bJ
 rw[e5]
 obtain ⟨L1,KU⟩:∃X,L++aV n [⟨#[101,110,117,109,32]⟩++nm++⟨#[32,123]⟩]=X:=⟨_,rfl⟩
 rw[KU] at HG
 obtain ⟨L2,Ts⟩:∃X,L1++eW (n+1) 2147483647 res gone=X:=⟨_,rfl⟩
 have DN:Hid (L++(aV n [⟨#[101,110,117,109,32]⟩++nm++⟨#[32,123]⟩]++(eW (n+1) 2147483647 res gone++aQ.flatMap (gu (n+1)))++aV n [⟨#[125]⟩])=(L2++aQ.flatMap (gu (n+1)))++aV n [⟨#[125]⟩]):=by show _=_;rw[←Ts,←KU];simp
 have Tc:L1.length=L.length+(2*n+(nm.size+7)+1):=by
  rw[←KU,zK,dP,ByteArray.size_append,ByteArray.size_append]
  have:(⟨#[101,110,117,109,32]⟩:ByteArray).size=5:=rfl
  have:(⟨#[32,123]⟩:ByteArray).size=2:=rfl
  omega
 have Tb:L2.length=L1.length+(eW (n+1) 2147483647 res gone).length:=by rw[←Ts,zK]
 have XV:=al (And.intro Tc Tb)
 have HL2:=al Ts
 clear lv dY hl KH hE xS hG KU Ts h bJ k0 ho hF Tc Tb e5
 go_enter Tryz.func29,Tryz.ntmps29
 go_wp2_with fail
 refine (ab HG).mono ?_
 rintro e w1 ⟨rfl,xS,lO⟩
 have uW:=al (lO _ _ _ _ (ab yz) (ab j9) (by decide))
 have yB:=al ((ab Fg).trans lO)
 obtain ⟨u1,xS⟩:=xS
 have sb:=al (ab P0 w1 L1 u1 xS (by have:=ab HL;have:=ab XV;omega))
 rw[ab HL2] at sb
 push_cast at sb
 clear xS lO HG Fg j9 P0 c0 c1 c2 c3 z1
 obtain ⟨c0,c1,c2,c3⟩:=a8 (ab uW)
 go_wp2_with fail
 refine (ab sb).mono ?_
 rintro e w2 ⟨rfl,lI,lG⟩
 have nN:=al (lG _ _ _ _ (ab yz) (ab uW) (by decide))
 have SR:=al ((ab yB).trans lG)
 have SG:=al lI
 clear lI lG sb uW yB c0 c1 c2 c3
 go_wp2
 go_loopg [6] aQ.length (fun gk v6 wr=>∃(i:Nat),v6=.int .i64 (i:Int)∧gk=aQ.length-i∧i≤aQ.length∧Hid (∃v,Pg W pg (L2++(aQ.take i).flatMap (gu (n+1))) v wr)∧Hid (Kp pg w wr)∧Hid (wr.heap[w.heap.size]?=some (.cells #[.string nm,.slice av aQ.length cv,.slice ar res.length cr,.slice ag gone.length cg] 67 (0,0))))
 case atStart=>exact ⟨0,rfl,rfl,by omega,by show ∃_,_;rw[List.take_zero,List.flatMap_nil,List.append_nil];exact ab SG,SR,nN⟩
 case round =>
  obtain ⟨i,rfl,aU,eO,fz,SQ,fA⟩:=hrel
  have bz:=al aU
  clear aU SG SR nN
  obtain ⟨c0,c1,c2,c3⟩:=a8 (ab fA)
  by_cases aM:i<aQ.length
  ·have aS:Below W.heap.size W wr:=by obtain ⟨_,h⟩:=ab fz;exact h.bV
   obtain ⟨g,o,rfl,hg,hc⟩:=ab I' (by omega)
   have hl:=List.getElem?_eq_getElem aM
   obtain ⟨⟨s,m⟩,hs⟩:∃d,aQ[i]=d:=⟨_,rfl⟩
   rw[hs] at hl
   have x0:=(aS.cell (p:=⟨g,o+(i*2+0),none⟩) hg).trans (hc _ _ (fD hl (j:=0) (by decide)))
   have x1:=(aS.cell (p:=⟨g,o+(i*2+1),none⟩) hg).trans (hc _ _ (fD hl (j:=1) (by decide)))
   rw[Nat.add_zero] at x0
   rw[←Nat.add_assoc] at x1
   clear hc hs
   have dy:Hid (∀w',Below W.heap.size W w'→w'.cell? ⟨g,o+i*2,none⟩=some (.string s)∧w'.cell? ⟨g,o+i*2+1,none⟩=some (.int .i64 m)):=by
    intro w' hb
    obtain ⟨g2,o2,hgg,ed,nP⟩:=ab I' (by omega)
    obtain ⟨rfl,rfl⟩:g=g2∧o=o2:=by simpa using hgg
    have y0:=(hb.cell (p:=⟨g,o+(i*2+0),none⟩) ed).trans (nP _ _ (fD hl (j:=0) (by decide)))
    have y1:=(hb.cell (p:=⟨g,o+(i*2+1),none⟩) ed).trans (nP _ _ (fD hl (j:=1) (by decide)))
    exact ⟨y0,y1⟩
   have Rm:=ab HOv _ (List.mem_of_getElem? hl)
   have zs:s.size≤255:=ab E9 _ (List.mem_of_getElem? hl)
   have HD:=al (fun w=>nW (n:=m) (by have:=Rm.1;simp only at this;omega) (by have:=Rm.2;simp only at this;omega) w)
   have zm:=cQ (n:=m) (by have:=Rm.1;simp only at this;omega) (by have:=Rm.2;simp only at this;omega)
   have s9:Hid (L2++(aQ.take (i+1)).flatMap (gu (n+1))=(L2++(aQ.take i).flatMap (gu (n+1)))++aV (n+1) [s++⟨#[32,61,32]⟩++bH m++⟨#[59]⟩]):=by
    show _=_
    rw[bL hl,List.flatMap_append,zT]
    simp
   have OO:Hid ((L2++(aQ.take i).flatMap (gu (n+1))).length+2*(n+1)+(s.size+3+(bH m).size+1)+1≤1099511627776):=by
    have h1:=ft (gu (n+1)) aQ (i+1)
    rw[bL hl,List.flatMap_append,zK] at h1
    have h2:([(s,m)].flatMap (gu (n+1))).length=2*(n+1)+(s.size+3+(bH m).size+1)+1:=by
     simp only[List.flatMap_cons,List.flatMap_nil,List.append_nil]
     rw[←zT,dP,ByteArray.size_append,ByteArray.size_append,ByteArray.size_append]
     rfl
    have h3:=ab HL
    have h4:=ab XV
    show _≤_
    rw[zK]
    omega
   have z3:(s++⟨#[32,61,32]⟩).size≤300:=by rw[ByteArray.size_append];have:(⟨#[32,61,32]⟩:ByteArray).size=3:=rfl;omega
   have z4:(s++⟨#[32,61,32]⟩++bH m).size≤400:=by rw[ByteArray.size_append];omega
   have q3:(⟨#[32,61,32]⟩:ByteArray).size=3:=rfl
   have q1:(⟨#[59]⟩:ByteArray).size=1:=rfl
   have i0:(0:Int)≤(i:Int):=zH _
   have i1:(i:Int)<(aQ.length:Int):=by omega
   have bu:=al aM
   clear hl aS aM Rm
   go_upto_region 6 with fail
   refine wp_region_any (by kernel_rfl) (bK (z:=99) (T:=fun w'=>w'.heap[w.heap.size]?=some (.cells #[.string nm,.slice (some ⟨g,o,none⟩) aQ.length cv,.slice ar res.length cr,.slice ag gone.length cg] 67 (0,0))∧Below W.heap.size W w') _ _ _ _ ?_)
   try (change bZ _ _ _ _ _ _ _ _ _ (World.drew _))
   obtain ⟨u,ZA⟩:=ab fz
   have H7:=ZA.below (below_drewN (zE wr.heap.size wr) 1)
   have Wq:Kp pg wr wr.drew:=Kp.below (below_drewN (zE wr.heap.size wr) 1)
   change Pg W pg _ _ wr.drew at H7
   have RP:wr.drew.heap[w.heap.size]?=some (.cells #[.string nm,.slice (some ⟨g,o,none⟩) aQ.length cv,.slice ar res.length cr,.slice ag gone.length cg] 67 (0,0)):=ab fA
   obtain ⟨wd,mW⟩:∃x,wr.drew=x:=⟨_,rfl⟩
   rw[mW] at H7 Wq RP ⊢
   have hT:wd.heap[w.heap.size]?=some (.cells #[.string nm,.slice (some ⟨g,o,none⟩) aQ.length cv,.slice ar res.length cr,.slice ag gone.length cg] 67 (0,0))∧Below W.heap.size W wd:=⟨RP,H7.bV⟩
   clear c0 c1 c2 c3 x0 x1
   refine aw 0 (.pointer (some ⟨pg,0,none⟩)) 29 rfl rfl (Or.inl ⟨by rfl,fun w' hw=>by obtain ⟨c0,c1,c2,c3⟩:=a8 hw.1;obtain ⟨x0,x1⟩:=ab dy w' hw.2;go_simp⟩) hT ?_
   simp only[Act.put,zL,zM,zN]
   refine aw 1 (.int .i64 (n:Int)) 30 rfl rfl (Or.inl ⟨by rfl,fun w' hw=>by obtain ⟨c0,c1,c2,c3⟩:=a8 hw.1;obtain ⟨x0,x1⟩:=ab dy w' hw.2;go_simp⟩) hT ?_
   simp only[Act.put,zL,zM,zN]
   refine aw 2 (.int .i64 ((n:Int)+1)) 31 rfl rfl (Or.inl ⟨by rfl,fun w' hw=>by obtain ⟨c0,c1,c2,c3⟩:=a8 hw.1;obtain ⟨x0,x1⟩:=ab dy w' hw.2;go_simp;try exact IntWalk.i64_in _ (by omega)⟩) hT ?_
   simp only[Act.put,zL,zM,zN]
   refine aw 3 (.pointer (some ⟨w.heap.size,1,none⟩)) 32 rfl rfl (Or.inl ⟨by rfl,fun w' hw=>by obtain ⟨c0,c1,c2,c3⟩:=a8 hw.1;obtain ⟨x0,x1⟩:=ab dy w' hw.2;go_simp⟩) hT ?_
   simp only[Act.put,zL,zM,zN]
   refine aw 4 (.slice (some ⟨g,o,none⟩) aQ.length cv) 33 rfl rfl (Or.inl ⟨by rfl,fun w' hw=>by obtain ⟨c0,c1,c2,c3⟩:=a8 hw.1;obtain ⟨x0,x1⟩:=ab dy w' hw.2;go_simp⟩) hT ?_
   simp only[Act.put,zL,zM,zN]
   refine aw 5 (.int .i64 (i:Int)) 34 rfl rfl (Or.inl ⟨by rfl,fun w' hw=>by obtain ⟨c0,c1,c2,c3⟩:=a8 hw.1;obtain ⟨x0,x1⟩:=ab dy w' hw.2;go_simp⟩) hT ?_
   simp only[Act.put,zL,zM,zN]
   refine aw 6 (.pointer (some ⟨g,o+i*2,none⟩)) 35 rfl rfl (Or.inl ⟨by rfl,fun w' hw=>by obtain ⟨c0,c1,c2,c3⟩:=a8 hw.1;obtain ⟨x0,x1⟩:=ab dy w' hw.2;go_simp⟩) hT ?_
   simp only[Act.put,zL,zM,zN]
   refine aw 7 (.pointer (some ⟨g,o+i*2,none⟩)) 36 rfl rfl (Or.inl ⟨by rfl,fun w' hw=>by obtain ⟨c0,c1,c2,c3⟩:=a8 hw.1;obtain ⟨x0,x1⟩:=ab dy w' hw.2;go_simp⟩) hT ?_
   simp only[Act.put,zL,zM,zN]
   refine aw 8 (.string s) 37 rfl rfl (Or.inl ⟨by rfl,fun w' hw=>by obtain ⟨c0,c1,c2,c3⟩:=a8 hw.1;obtain ⟨x0,x1⟩:=ab dy w' hw.2;go_simp⟩) hT ?_
   simp only[Act.put,zL,zM,zN]
   refine aw 9 (.string (s++⟨#[32,61,32]⟩)) 38 rfl rfl (Or.inl ⟨by rfl,fun w' hw=>by obtain ⟨c0,c1,c2,c3⟩:=a8 hw.1;obtain ⟨x0,x1⟩:=ab dy w' hw.2;go_simp;try omega⟩) hT ?_
   simp only[Act.put,zL,zM,zN]
   refine aw 10 (.pointer (some ⟨w.heap.size,1,none⟩)) 39 rfl rfl (Or.inl ⟨by rfl,fun w' hw=>by obtain ⟨c0,c1,c2,c3⟩:=a8 hw.1;obtain ⟨x0,x1⟩:=ab dy w' hw.2;go_simp⟩) hT ?_
   simp only[Act.put,zL,zM,zN]
   refine aw 11 (.slice (some ⟨g,o,none⟩) aQ.length cv) 40 rfl rfl (Or.inl ⟨by rfl,fun w' hw=>by obtain ⟨c0,c1,c2,c3⟩:=a8 hw.1;obtain ⟨x0,x1⟩:=ab dy w' hw.2;go_simp⟩) hT ?_
   simp only[Act.put,zL,zM,zN]
   refine aw 12 (.int .i64 (i:Int)) 41 rfl rfl (Or.inl ⟨by rfl,fun w' hw=>by obtain ⟨c0,c1,c2,c3⟩:=a8 hw.1;obtain ⟨x0,x1⟩:=ab dy w' hw.2;go_simp⟩) hT ?_
   simp only[Act.put,zL,zM,zN]
   refine aw 13 (.pointer (some ⟨g,o+i*2,none⟩)) 42 rfl rfl (Or.inl ⟨by rfl,fun w' hw=>by obtain ⟨c0,c1,c2,c3⟩:=a8 hw.1;obtain ⟨x0,x1⟩:=ab dy w' hw.2;go_simp⟩) hT ?_
   simp only[Act.put,zL,zM,zN]
   refine aw 14 (.pointer (some ⟨g,o+i*2+1,none⟩)) 43 rfl rfl (Or.inl ⟨by rfl,fun w' hw=>by obtain ⟨c0,c1,c2,c3⟩:=a8 hw.1;obtain ⟨x0,x1⟩:=ab dy w' hw.2;go_simp⟩) hT ?_
   simp only[Act.put,zL,zM,zN]
   refine aw 15 (.int .i64 m) 44 rfl rfl (Or.inl ⟨by rfl,fun w' hw=>by obtain ⟨c0,c1,c2,c3⟩:=a8 hw.1;obtain ⟨x0,x1⟩:=ab dy w' hw.2;go_simp⟩) hT ?_
   simp only[Act.put,zL,zM,zN]
   refine aF 16 (by kernel_rfl) rfl (fun K hK=>?_)
   refine aO 45 rfl rfl 59 (fun vs=>by kernel_rfl) #[.tmp 44] #[3] rfl #[.int .i64 m] (by first|rfl|simp[Act.eval]) (ab HD wd) ?_
   rintro e' w4 ⟨rfl,aR⟩
   have Jt:=H7.below aR
   have ZE:Kp pg wd w4:=Kp.below aR
   have hT:w4.heap[w.heap.size]?=some (.cells #[.string nm,.slice (some ⟨g,o,none⟩) aQ.length cv,.slice ar res.length cr,.slice ag gone.length cg] 67 (0,0))∧Below W.heap.size W w4:=⟨(aR.block _ (zA RP).1).trans RP,Jt.bV⟩
   refine ⟨_,rfl,hK _ _ ⟨fun _=>hT,?_⟩⟩
   clear hK K aR
   simp only[Act.put,zL,zM,zN]
   refine aw 17 (.string (s++⟨#[32,61,32]⟩++bH m)) 46 rfl rfl (Or.inl ⟨by rfl,fun w' hw=>by obtain ⟨c0,c1,c2,c3⟩:=a8 hw.1;obtain ⟨x0,x1⟩:=ab dy w' hw.2;go_simp;try omega⟩) hT ?_
   simp only[Act.put,zL,zM,zN]
   refine aw 18 (.string (s++⟨#[32,61,32]⟩++bH m++⟨#[59]⟩)) 47 rfl rfl (Or.inl ⟨by rfl,fun w' hw=>by obtain ⟨c0,c1,c2,c3⟩:=a8 hw.1;obtain ⟨x0,x1⟩:=ab dy w' hw.2;go_simp;try omega⟩) hT ?_
   simp only[Act.put,zL,zM,zN]
   refine aF 19 (by kernel_rfl) rfl (fun K hK=>?_)
   have hG:=da Jt (n+1) (s++⟨#[32,61,32]⟩++bH m++⟨#[59]⟩) (by omega) (by have:=ab OO;rw[ByteArray.size_append,ByteArray.size_append,ByteArray.size_append];have:(⟨#[32,61,32]⟩:ByteArray).size=3:=rfl;have:(⟨#[59]⟩:ByteArray).size=1:=rfl;omega)
   refine aO 48 rfl rfl 26 (fun vs=>by kernel_rfl) #[.tmp 29,.tmp 31,.tmp 47] #[57,3,9] rfl #[.pointer (some ⟨pg,0,none⟩),.int .i64 ((n:Int)+1),.string (s++⟨#[32,61,32]⟩++bH m++⟨#[59]⟩)] (by first|rfl|simp[Act.eval]) (by first|exact hG|(push_cast at hG;exact hG)) ?_
   rintro e' w5 ⟨rfl,sw,Ws⟩
   have uj:=Ws _ _ _ _ (ab yz) hT.1 (by decide)
   refine ⟨_,rfl,hK _ _ ⟨fun _=>⟨uj,by obtain ⟨_,h⟩:=sw;exact h.bV⟩,?_⟩⟩
   clear hK K hT hG
   refine aZ (by kernel_rfl) ?_
   have lL:Hid (∃v,Pg W pg (L2++(aQ.take (i+1)).flatMap (gu (n+1))) v w5):=by rw[ab s9];exact sw
   have sd:=al ((((ab SQ).trans Wq).trans ZE).trans Ws)
   have OI:=al uj
   clear sw Ws uj H7 Wq RP Jt ZE ZA
   go_wp2
   go_roundg (aQ.length-(i+1))
   case measure=>have:=ab bz;have:=ab bu;omega
   case rel=>exact ⟨i+1,by go_num,rfl,ab bu,lL,sd,OI⟩
  ·obtain rfl:i=aQ.length:=by omega
   obtain ⟨u,hP⟩:=ab fz
   rw[List.take_length] at hP
   have HG:=al (da hP n ⟨#[125]⟩ (by omega) (by have:=ab HL;have:=ab XV;rw[zK];have:(⟨#[125]⟩:ByteArray).size=1:=rfl;omega))
   clear hP
   go_wp2_with fail
   refine (ab HG).mono ?_
   rintro e w5 ⟨rfl,sw,jx⟩
   have lL:=al sw
   have sd:=al ((ab SQ).trans jx)
   clear sw jx HG
   go_wp2
   go_end0
   exact ⟨rfl,by rw[ab DN];exact ab lL,ab sd⟩
end Go.Proofs.YtichhjfjcinjgaaGreatDoor
namespace Go.Proofs.YtichhjfjcinjgaaGreatDoor
def tN (gs:List (List Fd)):Int:=match gs[gs.length-1]? with
 |some (a::_)=>a.aE
 |_=>0
theorem we (gs:List (List Fd)) (a:Fd) (q:List Fd):tN (gs++[a::q])=a.aE:=by simp[tN]
theorem wF {gs:List (List Fd)}{d:Fd} (h:lJ gs d=true):∃a c q,gs=a++[c::q]∧c.aE≠0∧c.aE=d.aE∧mK gs d=a++[(c::q)++[d]]:=by
 have Tl:=h
 unfold lJ at h
 have iG:gs≠[]:=by rintro rfl;simp at h
 obtain ⟨G,a,rfl⟩:∃G a,gs=a++[G]:=⟨_,_,(List.dropLast_concat_getLast iG).symm⟩
 cases G with
 |nil=>simp at h
 |cons c q =>
  have h2:c.aE≠0∧c.aE=d.aE:=by simpa[tO] using h
  refine ⟨a,c,q,rfl,h2.1,h2.2,?_⟩
  unfold mK
  rw[if_pos Tl]
  simp
theorem xW {gs:List (List Fd)}{d:Fd} (h:¬lJ gs d=true):mK gs d=gs++[([d])]:=by unfold mK;rw[if_neg h]
theorem pH {gs:List (List Fd)}{d:Fd}:lJ gs d=true↔tN gs≠0∧tN gs=d.aE:=by
 unfold lJ tN
 cases gs[gs.length-1]? with
 |none=>simp
 |some G =>
  cases G with
  |nil=>simp
  |cons a q=>simp[tO]
theorem wb (fs:List Fd):∀i,i≤fs.length→tN (cj (fs.take i))=eX fs i:=by
 intro i
 induction i with
 |zero=>intro _;rfl
 |succ i ih =>
  intro h
  have hl:fs[i]?=some fs[i]:=List.getElem?_eq_getElem (by omega)
  have hp:eX fs (i+1)=fs[i].aE:=by unfold eX;simp only;rw[hl]
  rw[gX hl,hp]
  by_cases hc:lJ (cj (fs.take i)) fs[i]=true
  ·obtain ⟨a,c,q,-,-,h3,h4⟩:=wF hc
   rw[h4]
   show tN (a++[c::(q++[fs[i]])])=_
   rw[we,h3]
  ·rw[xW hc,we]
def EJ (n:Nat) (os:List ByteArray) (G:List Fd):List Nat:=match G with
 |[]=>[]
 |d::_=>aV n [gU,⟨#[32]⟩,os.getD (d.aE.toNat-1) ⟨#[]⟩,⟨#[32,123]⟩]++G.flatMap (bR (n+1))
def eg (n:Nat) (os:List ByteArray) (fs:List Fd) (i:Nat):List Nat:=if eX fs i≠0∧(fs[i]?).map Fd.aE=some (eX fs i) then ((cj (fs.take i)).dropLast.flatMap (dD n os))++EJ n os ((cj (fs.take i)).getLastD []) else (cj (fs.take i)).flatMap (dD n os)
theorem Ch {n:Nat}{os:List ByteArray}{c:Fd}{q:List Fd} (h:c.aE≠0):dD n os (c::q)=EJ n os (c::q)++aV n [⟨#[125]⟩]:=by
 unfold dD EJ cl
 simp only
 rw[if_pos h]
theorem WD (n:Nat) (os:List ByteArray) (fs:List Fd):eg n os fs 0=[]:=by
 unfold eg
 rw[if_neg (fun h=>h.1 rfl)]
 rfl
theorem Cs (n:Nat) (os:List ByteArray) (fs:List Fd):eg n os fs fs.length=(cj fs).flatMap (dD n os):=by
 unfold eg
 rw[if_neg (fun h=>by have:=h.2;rw[List.getElem?_eq_none (zD _)] at this;cases this),List.take_length]
theorem xZ {n:Nat}{os:List ByteArray}{fs:List Fd}{i:Nat}{d:Fd} (h:fs[i]?=some d) (h0:d.aE=0):eg n os fs (i+1)=eg n os fs i++bR n d:=by
 have hi:=(zB h).1
 have hp:eX fs (i+1)=d.aE:=by unfold eX;simp only;rw[h]
 have hl:=wb fs i (by omega)
 have hc:¬lJ (cj (fs.take i)) d=true:=fun k=>by have:=pH.1 k;rw[h0] at this;exact this.1 this.2
 have e1:eg n os fs (i+1)=(cj (fs.take (i+1))).flatMap (dD n os):=by unfold eg;rw[if_neg (fun k=>k.1 (hp.trans h0))]
 have e2:eg n os fs i=(cj (fs.take i)).flatMap (dD n os):=by
  unfold eg
  rw[if_neg]
  rintro ⟨k1,k2⟩
  rw[h] at k2
  exact k1 ((zC k2).symm.trans h0)
 rw[e1,e2,gX h,xW hc,List.flatMap_append]
 congr 1
 simp[dD,h0]
theorem Iq {n:Nat}{os:List ByteArray}{fs:List Fd}{i:Nat}{d:Fd} (h:fs[i]?=some d) (h0:d.aE≠0) :
  eg n os fs (i+1)=eg n os fs i++(if eX fs i≠d.aE then aV n [gU,⟨#[32]⟩,os.getD (d.aE.toNat-1) ⟨#[]⟩,⟨#[32,123]⟩] else [])++bR (n+1) d++(if (fs[i+1]?).map Fd.aE≠some d.aE then aV n [⟨#[125]⟩] else []):=by
 have hi:=(zB h).1
 have hp:eX fs (i+1)=d.aE:=by unfold eX;simp only;rw[h]
 have hl:=wb fs i (by omega)
 have key:∃a c q,cj (fs.take (i+1))=a++[c::q]∧c.aE≠0∧a.flatMap (dD n os)++EJ n os (c::q)=eg n os fs i++(if eX fs i≠d.aE then aV n [gU,⟨#[32]⟩,os.getD (d.aE.toNat-1) ⟨#[]⟩,⟨#[32,123]⟩] else [])++bR (n+1) d:=by
  rw[gX h]
  by_cases hb:eX fs i=d.aE
  ·have hc:lJ (cj (fs.take i)) d=true:=pH.2 ⟨by rw[hl,hb];exact h0,hl.trans hb⟩
   obtain ⟨a,c,q,e1,e2,-,e4⟩:=wF hc
   refine ⟨a,c,q++[d],e4,e2,?_⟩
   rw[if_neg (fun k=>k hb)]
   unfold eg
   rw[if_pos ⟨by rw[hb];exact h0,by rw[h,hb];rfl⟩,e1,List.dropLast_concat]
   simp[EJ]
  ·have hc:¬lJ (cj (fs.take i)) d=true:=fun k=>hb (by rw[←hl];exact (pH.1 k).2)
   refine ⟨_,d,[],xW hc,h0,?_⟩
   rw[if_pos hb]
   have e2:eg n os fs i=(cj (fs.take i)).flatMap (dD n os):=by
    unfold eg
    rw[if_neg]
    rintro ⟨k1,k2⟩
    rw[h] at k2
    exact hb (zC k2).symm
   rw[e2]
   simp[EJ]
 obtain ⟨a,c,q,k1,k2,k3⟩:=key
 rw[←k3]
 unfold eg
 rw[hp,k1]
 by_cases hn:(fs[i+1]?).map Fd.aE=some d.aE
 ·rw[if_pos ⟨h0,hn⟩,if_neg (fun k=>k hn),List.dropLast_concat,List.append_nil]
  simp
 ·rw[if_neg (fun k=>hn k.2),if_pos hn,List.flatMap_append,List.append_assoc]
  congr 1
  simp only[List.flatMap_cons,List.flatMap_nil,List.append_nil]
  exact Ch k2
theorem Ma (n:Nat) (os:List ByteArray) (fs:List Fd):∀k i,i+k≤fs.length→(eg n os fs i).length≤(eg n os fs (i+k)).length:=by
 have step:∀i,i<fs.length→(eg n os fs i).length≤(eg n os fs (i+1)).length:=by
  intro i hi
  have h:fs[i]?=some fs[i]:=List.getElem?_eq_getElem hi
  by_cases h0:fs[i].aE=0
  ·rw[xZ h h0,zK];omega
  ·rw[Iq h h0,zK,zK,zK];omega
 intro k
 induction k with
 |zero=>intro i _;exact zD _
 |succ k ih=>intro i h;exact Nat.le_trans (ih i (by omega)) (step (i+k) (by omega))
theorem tK (n:Nat) (x:Int):j4 n x=if (n:Int)≤x then some (x-n) else none:=by
 unfold j4
 by_cases h:(n:Int)≤x
 ·rw[if_pos (by omega),if_pos h]
 ·rw[if_neg (by omega),if_neg h]
theorem oZ {α:Type}{q:α→Int→Option Int}{p:α→Bool}{c:α→Nat}:∀(l:List α),(∀a ∈ l,∀x,0≤x→q a x=if p a=true∧(c a:Int)≤x then some (x-c a) else none)→∀x,0≤x→jR q l x=if l.all p=true∧(bE c l:Int)≤x then some (x-bE c l) else none
 |[],_,x,hx=>by
  unfold jR bE
  rw[if_pos ⟨rfl,by omega⟩]
  simp
 |a::l,h,x,hx=>by
  have ih:=oZ l (fun b hb=>h b (zF _ hb))
  unfold jR
  rw[h a (List.mem_cons_self ..) x hx,List.all_cons]
  have hs:(bE c (a::l):Int)=c a+bE c l:=by rw[bE];push_cast;rfl
  rw[hs]
  by_cases hp:p a=true
  ·by_cases hc:(c a:Int)≤x
   ·rw[if_pos ⟨hp,hc⟩]
    simp only
    rw[ih _ (by omega),hp,Bool.true_and]
    by_cases h2:l.all p=true∧(bE c l:Int)≤x-c a
    ·rw[if_pos h2,if_pos ⟨h2.1,by omega⟩]
     congr 1
     omega
    ·rw[if_neg h2,if_neg (fun h3=>h2 ⟨h3.1,by omega⟩)]
   ·rw[if_neg (fun k=>hc k.2),if_neg (fun k=>hc (by have:=k.2;omega))]
  ·rw[if_neg (fun k=>hp k.1),if_neg (fun k=>by simp[hp] at k)]
def Dy (e:En):Nat:=e.aQ.length+e.res.length+e.gone.length
def AW:Nat→Ms→Nat
 |0,_=>0
 |f+1,.mk _ fs os ms es rs gs=>fs.length+os.length+ms.length+es.length+rs.length+gs.length+bE (AW f) ms+bE Dy es
theorem Au (e:En) (x:Int):iy e x=if bc e=true∧(Dy e:Int)≤x then some (x-Dy e) else none:=by
 unfold iy
 rw[tK]
 show (match (if ((Dy e:Nat):Int)≤x then some (x-(Dy e:Nat)) else none) with|none=>none|some x1=>if bc e=true then some x1 else none)=_
 by_cases h:(Dy e:Int)≤x
 ·rw[if_pos h]
  by_cases h2:bc e=true
  ·rw[if_pos ⟨h2,h⟩];simp only;rw[if_pos h2]
  ·rw[if_neg (fun k=>h2 k.1)];simp only;rw[if_neg h2]
 ·rw[if_neg h,if_neg (fun k=>h k.2)]
theorem Kb (nm:ByteArray) (fs:List Fd) (os:List ByteArray) (rs:List (Int×Int)) (gs:List ByteArray) (b:Bool):(bD nm&&((rs.all (gd 1 536870911)&&gs.all bD)&&(AV fs os.length&&(os.all bD&&(fs.all cI&&b)))))=(tI nm fs os rs gs&&b):=by
 unfold tI
 cases bD nm<;>cases os.all bD<;>cases fs.all cI<;>cases AV fs os.length<;>cases rs.all (gd 1 536870911)<;>cases gs.all bD<;>cases b<;>rfl
theorem Gu:∀(f:Nat) (m:Ms) (x:Int),0≤x→nD f m x=if gV f m=true∧(AW f m:Int)≤x then some (x-AW f m) else none
 |0,_,x,_=>by
  unfold nD gV
  rw[if_neg (fun k=>by cases k.1)]
 |f+1,.mk nm fs os ms es rs gs,x,hx=>by
  have h1:=oZ (q:=nD f) (p:=gV f) (c:=AW f) ms (fun m _ x hx=>Gu f m x hx)
  have h2:=oZ (q:=iy) (p:=bc) (c:=Dy) es (fun e _ x _=>Au e x)
  obtain ⟨k,hk⟩:∃k,fs.length+os.length+ms.length+es.length+rs.length+gs.length=k:=⟨_,rfl⟩
  have hM:AW (f+1) (.mk nm fs os ms es rs gs)=k+bE (AW f) ms+bE Dy es:=by rw[←hk];rfl
  have hB:gV (f+1) (.mk nm fs os ms es rs gs)=(tI nm fs os rs gs&&(es.all bc&&ms.all (gV f))):=Kb nm fs os rs gs _
  rw[hM,hB,nD,hk,tK]
  by_cases c1:(k:Int)≤x
  ·rw[if_pos c1]
   simp only
   by_cases c2:tI nm fs os rs gs=true
   ·rw[if_pos c2,h1 _ (by omega),c2,Bool.true_and]
    by_cases c3:ms.all (gV f)=true∧(bE (AW f) ms:Int)≤x-k
    ·rw[if_pos c3]
     simp only
     rw[h2 _ (by omega),c3.1,Bool.and_true]
     by_cases c4:es.all bc=true∧(bE Dy es:Int)≤x-k-bE (AW f) ms
     ·rw[if_pos c4,if_pos ⟨c4.1,by push_cast;omega⟩]
      congr 1
      push_cast
      omega
     ·rw[if_neg c4,if_neg (fun h=>c4 ⟨h.1,by have:=h.2;push_cast at this;omega⟩)]
    ·rw[if_neg c3,if_neg]
     rintro ⟨h3,h4⟩
     rw[Bool.and_eq_true] at h3
     exact c3 ⟨h3.2,by push_cast at h4;omega⟩
   ·rw[if_neg c2,if_neg]
    rintro ⟨h3,-⟩
    rw[Bool.and_eq_true] at h3
    exact c2 h3.1
  ·rw[if_neg c1,if_neg (fun h=>c1 (by have:=h.2;push_cast at this;omega))]
theorem sh {α:Type}{c d:α→Nat}:∀(l:List α),(∀a ∈ l,c a=1+d a)→bE c l=l.length+bE d l
 |[],_=>rfl
 |a::l,h=>by
  rw[bE,bE,h a (List.mem_cons_self ..),sh l (fun b hb=>h b (zF _ hb)),List.length_cons]
  omega
theorem Io (l:List En):bE kh l=l.length+bE Dy l:=sh l (fun e _=>by unfold kh Dy;omega)
theorem DC:∀(f:Nat) (m:Ms),gV f m=true→cO f m=1+AW f m
 |0,_,h=>by cases h
 |f+1,.mk nm fs os ms es rs gs,h=>by
  unfold gV at h
  simp only[Bool.and_eq_true] at h
  have h1:=sh (c:=cO f) (d:=AW f) ms (fun m hm=>DC f m (List.all_eq_true.1 h.2.2.2.2.2.2 m hm))
  have h2:=Io es
  unfold cO AW
  omega
theorem Cp (F:Fl):(lB F).isSome=Du F:=by
 unfold lB Du
 cases hp:(F.kz.toList.isEmpty ||dv F.kz) with
 |false=>rw[if_neg (by decide)];rfl
 |true =>
  rw[if_pos rfl,Bool.true_and,tK]
  have h1:=oZ (q:=nD 32) (p:=gV 32) (c:=AW 32) F.ms (fun m _ x hx=>Gu 32 m x hx)
  have h2:=oZ (q:=iy) (p:=bc) (c:=Dy) F.es (fun e _ x _=>Au e x)
  have h3:=Io F.es
  by_cases c0:F.cT.all dk=true
  ·rw[c0,Bool.true_and]
   by_cases c1:F.ms.all (gV 32)=true
   ·have h4:=sh (c:=cO 32) (d:=AW 32) F.ms (fun m hm=>DC 32 m (List.all_eq_true.1 c1 m hm))
    rw[c1,Bool.true_and]
    have hN:mL F=F.cT.length+F.ms.length+F.es.length+bE (AW 32) F.ms+bE Dy F.es:=by unfold mL;omega
    rw[hN]
    by_cases c2:((F.cT.length+F.ms.length+F.es.length:Nat):Int)≤4096
    ·rw[if_pos c2]
     simp only
     rw[if_pos trivial,h1 _ (by omega),c1]
     by_cases c3:(bE (AW 32) F.ms:Int)≤4096-((F.cT.length+F.ms.length+F.es.length:Nat):Int)
     ·rw[if_pos ⟨rfl,c3⟩]
      simp only
      rw[h2 _ (by omega)]
      cases c4:F.es.all bc with
      |false=>rw[if_neg (fun h=>by cases h.1)];rfl
      |true =>
       rw[Bool.true_and]
       by_cases c5:(bE Dy F.es:Int)≤4096-((F.cT.length+F.ms.length+F.es.length:Nat):Int)-bE (AW 32) F.ms
       ·rw[if_pos ⟨rfl,c5⟩,decide_eq_true (by omega)];rfl
       ·rw[if_neg (fun h=>c5 h.2),decide_eq_false (by omega)];rfl
     ·rw[if_neg (fun h=>c3 h.2),decide_eq_false (by omega),Bool.and_false];rfl
    ·rw[if_neg c2,decide_eq_false (by omega),Bool.and_false];rfl
   ·have Lf:F.ms.all (gV 32)=false:=by cases h:F.ms.all (gV 32) with|false=>rfl|true=>exact absurd h c1
    rw[Lf,Bool.false_and]
    split
    ·rfl
    ·rename_i x1 Fs
     have B0:0≤x1:=by
      split at Fs
      ·obtain rfl:=zC Fs;omega
      ·cases Fs
     rw[if_pos rfl,h1 _ B0,Lf,if_neg (fun h=>by cases h.1)]
     rfl
  ·have c0':F.cT.all dk=false:=by cases h:F.cT.all dk with|false=>rfl|true=>exact absurd h c0
   rw[c0',Bool.false_and]
   split
   ·rfl
   ·rw[if_neg (by decide)];rfl
end Go.Proofs.YtichhjfjcinjgaaGreatDoor

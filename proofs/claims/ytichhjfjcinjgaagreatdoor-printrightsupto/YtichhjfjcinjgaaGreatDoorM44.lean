import Derived.Test.YtichhjfjcinjgaaGreatDoorYDh
import Derived.Test.YtichhjfjcinjgaaGreatDoorYDm
set_option maxHeartbeats 8000000
set_option maxRecDepth 100000
namespace Go.Proofs.YtichhjfjcinjgaaGreatDoor
open Go.RowKit
attribute [local go_sem ↓] Go.wp_at_zero Go.wp_at_succ
theorem su (n:Nat) (a b:ByteArray):aV n [a++⟨#[32]⟩++b++⟨#[32,123]⟩]=aV n [a,⟨#[32]⟩,b,⟨#[32,123]⟩]:=by
 unfold aV
 simp[ku]
theorem z' (n:Nat) (s:ByteArray) (m:Int):aV n [s++⟨#[32,61,32]⟩++bI m++⟨#[59]⟩]=gw n (s,m):=by
 unfold gw aV gd bC
 simp[ku]
theorem dT (n:Nat) (a:ByteArray):(aV n [a]).length=2*n+a.size+1:=by rw[eR];simp
theorem fx {α:Type} (f:α→List Nat) (l:List α) (i:Nat):((l.take i).flatMap f).length≤(l.flatMap f).length:=by
 have h:=congrArg (fun x=>(List.flatMap f x).length) (List.take_append_drop i l)
 simp only[List.flatMap_append,zK] at h
 omega
theorem wJ {W w:World}{pg:Nat}{L:List Nat}{v:Value} (h:Pg W pg L v w) (hF:iG W) (n:Nat) (hn:n+1≤500) {e:En}{vv vr vg:Value} (hv:Rl W vv e.aQ.length (qP e.aQ)) (hr:Rl W vr e.res.length (kQ e.res)) (hg:Rl W vg e.gone.length (bZ e.gone)) (ho:I7 e) (hz:e.name.size≤255) (c7:∀v ∈ e.aQ,v.1.size≤255) (hl:L.length+(jB n e).length≤1099511627776) :
  Calls Tryz.prog 29 #[.pointer (some ⟨pg,0,none⟩),.int .i64 (n:Int),.agg #[.string e.name,vv,vr,vg]] w (Lv W pg (L++jB n e) w):=by
 have Qa:=al (fun (w':World) (L':List Nat) (u:Value) (hP:Pg W pg L' u w') (NG:L'.length+(fa (n+1) 2147483647 e.res e.gone).length≤1099511627776)=>Aw hP hF (n+1) hn hr hg ho.r2 ho.g2 NG)
 have HOv:=al ho.v2
 obtain ⟨nm,aQ,res,gone⟩:=e
 simp only at hv Qa HOv hz c7 ⊢
 obtain ⟨av,cv,rfl,Ap,lv⟩:=hv
 obtain ⟨ar,cr,rfl,-,-⟩:=hr
 obtain ⟨ag,cg,rfl,-,-⟩:=hg
 have Jo:=al lv
 have Fj:=al c7
 have k0:=aK w (.cells #[.string nm,.slice av aQ.length cv,.slice ar res.length cr,.slice ag gone.length cg] 67)
 have bG:Below w.heap.size w (w.alloc (.cells #[.string nm,.slice av aQ.length cv,.slice ar res.length cr,.slice ag gone.length cg] 67)):=(zE _ _).alloc (zD _) _
 have yD:Hid (w.heap.size≠pg):=fun e=>by have:=(zA h.dq).1;omega
 obtain ⟨V,hV⟩:∃V,w.alloc (.cells #[.string nm,.slice av aQ.length cv,.slice ar res.length cr,.slice ag gone.length cg] 67)=V:=⟨_,rfl⟩
 rw[hV] at k0 bG
 obtain ⟨c0,c1,c2,c3⟩:=a8 k0
 have hE:jB n ⟨nm,aQ,res,gone⟩=aV n [kz++⟨#[32]⟩++nm++⟨#[32,123]⟩]++(fa (n+1) 2147483647 res gone++aQ.flatMap (gw (n+1)))++aV n [⟨#[125]⟩]:=by rw[su];rfl
 rw[hE] at hl ⊢
 have KQ:L.length+(2*n+(nm.size+7)+1)+(fa (n+1) 2147483647 res gone).length+(aQ.flatMap (gw (n+1))).length+(2*n+2)≤1099511627776:=by
  rw[zK,zK,zK,dT,dT,ByteArray.size_append,ByteArray.size_append,ByteArray.size_append] at hl
  have:kz.size=4:=rfl
  have:(⟨#[32]⟩:ByteArray).size=1:=rfl
  have:(⟨#[32,123]⟩:ByteArray).size=2:=rfl
  have:(⟨#[125]⟩:ByteArray).size=1:=rfl
  omega
 have HL:=al KQ
 have xU:=h.below bG
 have hG:=df xU n (kz++⟨#[32]⟩++nm++⟨#[32,123]⟩) (by omega) (by rw[ByteArray.size_append,ByteArray.size_append,ByteArray.size_append];have:kz.size=4:=rfl;have:(⟨#[32]⟩:ByteArray).size=1:=rfl;have:(⟨#[32,123]⟩:ByteArray).size=2:=rfl;omega)
 have e5:kz++⟨#[32]⟩=(⟨#[101,110,117,109,32]⟩:ByteArray):=rfl
 have HG:=al hG
 rw[e5] at HG
 have z1:((⟨#[101,110,117,109,32]⟩:ByteArray)++nm).size≤300:=by rw[ByteArray.size_append];have:(⟨#[101,110,117,109,32]⟩:ByteArray).size=5:=rfl;omega
 have kd:=al k0
 have Ft:Hid (Kp pg w V):=Kp.below bG
 rw[e5]
 obtain ⟨L1,K7⟩:∃X,L++aV n [⟨#[101,110,117,109,32]⟩++nm++⟨#[32,123]⟩]=X:=⟨_,rfl⟩
 rw[K7] at HG
 obtain ⟨L2,TB⟩:∃X,L1++fa (n+1) 2147483647 res gone=X:=⟨_,rfl⟩
 have DX:Hid (L++(aV n [⟨#[101,110,117,109,32]⟩++nm++⟨#[32,123]⟩]++(fa (n+1) 2147483647 res gone++aQ.flatMap (gw (n+1)))++aV n [⟨#[125]⟩])=(L2++aQ.flatMap (gw (n+1)))++aV n [⟨#[125]⟩]):=by show _=_;rw[←TB,←K7];simp
 have yw:L1.length=L.length+(2*n+(nm.size+7)+1):=by
  rw[←K7,zK,dT,ByteArray.size_append,ByteArray.size_append]
  have:(⟨#[101,110,117,109,32]⟩:ByteArray).size=5:=rfl
  have:(⟨#[32,123]⟩:ByteArray).size=2:=rfl
  omega
 have Tm:L2.length=L1.length+(fa (n+1) 2147483647 res gone).length:=by rw[←TB,zK]
 have XZ:=al (And.intro yw Tm)
 have HL2:=al TB
 clear lv c7 hl KQ hE xU hG K7 TB h bG k0 ho hF yw Tm e5
 go_enter Tryz.func29,Tryz.ntmps29
 go_wp2_with fail
 refine (ab HG).mono ?_
 rintro e w1 ⟨rfl,xU,lQ⟩
 have vb:=al (lQ _ _ _ _ (ab yD) (ab kd) (by decide))
 have yF:=al ((ab Ft).trans lQ)
 obtain ⟨u1,xU⟩:=xU
 have se:=al (ab Qa w1 L1 u1 xU (by have:=ab HL;have:=ab XZ;omega))
 rw[ab HL2] at se
 push_cast at se
 clear xU lQ HG Ft kd Qa c0 c1 c2 c3 z1
 obtain ⟨c0,c1,c2,c3⟩:=a8 (ab vb)
 go_wp2_with fail
 refine (ab se).mono ?_
 rintro e w2 ⟨rfl,lK,lI⟩
 have nP:=al (lI _ _ _ _ (ab yD) (ab vb) (by decide))
 have S3:=al ((ab yF).trans lI)
 have SR:=al lK
 clear lK lI se vb yF c0 c1 c2 c3
 go_wp2
 go_loopg [6] aQ.length (fun gk v6 wr=>∃(i:Nat),v6=.int .i64 (i:Int)∧gk=aQ.length-i∧i≤aQ.length∧Hid (∃v,Pg W pg (L2++(aQ.take i).flatMap (gw (n+1))) v wr)∧Hid (Kp pg w wr)∧Hid (wr.heap[w.heap.size]?=some (.cells #[.string nm,.slice av aQ.length cv,.slice ar res.length cr,.slice ag gone.length cg] 67 (0,0))))
 case atStart=>exact ⟨0,rfl,rfl,by omega,by show ∃_,_;rw[List.take_zero,List.flatMap_nil,List.append_nil];exact ab SR,S3,nP⟩
 case round =>
  obtain ⟨i,rfl,aU,eS,fC,S2,fD⟩:=hrel
  have bz:=al aU
  clear aU SR S3 nP
  obtain ⟨c0,c1,c2,c3⟩:=a8 (ab fD)
  by_cases aM:i<aQ.length
  ·have aS:Below W.heap.size W wr:=by obtain ⟨_,h⟩:=ab fC;exact h.bW
   obtain ⟨g,o,rfl,hg,hc⟩:=ab Jo (by omega)
   have hl:=List.getElem?_eq_getElem aM
   obtain ⟨⟨s,m⟩,hs⟩:∃d,aQ[i]=d:=⟨_,rfl⟩
   rw[hs] at hl
   have x0:=(aS.cell (p:=⟨g,o+(i*2+0),none⟩) hg).trans (hc _ _ (fG hl (j:=0) (by decide)))
   have x1:=(aS.cell (p:=⟨g,o+(i*2+1),none⟩) hg).trans (hc _ _ (fG hl (j:=1) (by decide)))
   rw[Nat.add_zero] at x0
   rw[←Nat.add_assoc] at x1
   clear hc hs
   have dB:Hid (∀w',Below W.heap.size W w'→w'.cell? ⟨g,o+i*2,none⟩=some (.string s)∧w'.cell? ⟨g,o+i*2+1,none⟩=some (.int .i64 m)):=by
    intro w' hb
    obtain ⟨g2,o2,hgg,ei,nR⟩:=ab Jo (by omega)
    obtain ⟨rfl,rfl⟩:g=g2∧o=o2:=by simpa using hgg
    have y0:=(hb.cell (p:=⟨g,o+(i*2+0),none⟩) ei).trans (nR _ _ (fG hl (j:=0) (by decide)))
    have y1:=(hb.cell (p:=⟨g,o+(i*2+1),none⟩) ei).trans (nR _ _ (fG hl (j:=1) (by decide)))
    exact ⟨y0,y1⟩
   have Rz:=ab HOv _ (List.mem_of_getElem? hl)
   have zs:s.size≤255:=ab Fj _ (List.mem_of_getElem? hl)
   have HD:=al (fun w=>nZ (n:=m) (by have:=Rz.1;simp only at this;omega) (by have:=Rz.2;simp only at this;omega) w)
   have zm:=cS (n:=m) (by have:=Rz.1;simp only at this;omega) (by have:=Rz.2;simp only at this;omega)
   have th:Hid (L2++(aQ.take (i+1)).flatMap (gw (n+1))=(L2++(aQ.take i).flatMap (gw (n+1)))++aV (n+1) [s++⟨#[32,61,32]⟩++bI m++⟨#[59]⟩]):=by
    show _=_
    rw[bL hl,List.flatMap_append,z']
    simp
   have O0:Hid ((L2++(aQ.take i).flatMap (gw (n+1))).length+2*(n+1)+(s.size+3+(bI m).size+1)+1≤1099511627776):=by
    have h1:=fx (gw (n+1)) aQ (i+1)
    rw[bL hl,List.flatMap_append,zK] at h1
    have h2:([(s,m)].flatMap (gw (n+1))).length=2*(n+1)+(s.size+3+(bI m).size+1)+1:=by
     simp only[List.flatMap_cons,List.flatMap_nil,List.append_nil]
     rw[←z',dT,ByteArray.size_append,ByteArray.size_append,ByteArray.size_append]
     rfl
    have h3:=ab HL
    have h4:=ab XZ
    show _≤_
    rw[zK]
    omega
   have z3:(s++⟨#[32,61,32]⟩).size≤300:=by rw[ByteArray.size_append];have:(⟨#[32,61,32]⟩:ByteArray).size=3:=rfl;omega
   have z4:(s++⟨#[32,61,32]⟩++bI m).size≤400:=by rw[ByteArray.size_append];omega
   have q3:(⟨#[32,61,32]⟩:ByteArray).size=3:=rfl
   have q1:(⟨#[59]⟩:ByteArray).size=1:=rfl
   have i0:(0:Int)≤(i:Int):=zH _
   have i1:(i:Int)<(aQ.length:Int):=by omega
   have bu:=al aM
   clear hl aS aM Rz
   go_upto_region 6 with fail
   refine wp_region_any (by kernel_rfl) (bK (z:=99) (T:=fun w'=>w'.heap[w.heap.size]?=some (.cells #[.string nm,.slice (some ⟨g,o,none⟩) aQ.length cv,.slice ar res.length cr,.slice ag gone.length cg] 67 (0,0))∧Below W.heap.size W w') _ _ _ _ ?_)
   try (change cc _ _ _ _ _ _ _ _ _ (World.drew _))
   obtain ⟨u,ZG⟩:=ab fC
   have Ik:=ZG.below (below_drewN (zE wr.heap.size wr) 1)
   have Wv:Kp pg wr wr.drew:=Kp.below (below_drewN (zE wr.heap.size wr) 1)
   change Pg W pg _ _ wr.drew at Ik
   have R5:wr.drew.heap[w.heap.size]?=some (.cells #[.string nm,.slice (some ⟨g,o,none⟩) aQ.length cv,.slice ar res.length cr,.slice ag gone.length cg] 67 (0,0)):=ab fD
   obtain ⟨wd,mY⟩:∃x,wr.drew=x:=⟨_,rfl⟩
   rw[mY] at Ik Wv R5 ⊢
   have hT:wd.heap[w.heap.size]?=some (.cells #[.string nm,.slice (some ⟨g,o,none⟩) aQ.length cv,.slice ar res.length cr,.slice ag gone.length cg] 67 (0,0))∧Below W.heap.size W wd:=⟨R5,Ik.bW⟩
   clear c0 c1 c2 c3 x0 x1
   refine aw 0 (.pointer (some ⟨pg,0,none⟩)) 29 rfl rfl (Or.inl ⟨by rfl,fun w' hw=>by obtain ⟨c0,c1,c2,c3⟩:=a8 hw.1;obtain ⟨x0,x1⟩:=ab dB w' hw.2;go_simp⟩) hT ?_
   simp only[Act.put,zL,zM,zN]
   refine aw 1 (.int .i64 (n:Int)) 30 rfl rfl (Or.inl ⟨by rfl,fun w' hw=>by obtain ⟨c0,c1,c2,c3⟩:=a8 hw.1;obtain ⟨x0,x1⟩:=ab dB w' hw.2;go_simp⟩) hT ?_
   simp only[Act.put,zL,zM,zN]
   refine aw 2 (.int .i64 ((n:Int)+1)) 31 rfl rfl (Or.inl ⟨by rfl,fun w' hw=>by obtain ⟨c0,c1,c2,c3⟩:=a8 hw.1;obtain ⟨x0,x1⟩:=ab dB w' hw.2;go_simp;try exact IntWalk.i64_in _ (by omega)⟩) hT ?_
   simp only[Act.put,zL,zM,zN]
   refine aw 3 (.pointer (some ⟨w.heap.size,1,none⟩)) 32 rfl rfl (Or.inl ⟨by rfl,fun w' hw=>by obtain ⟨c0,c1,c2,c3⟩:=a8 hw.1;obtain ⟨x0,x1⟩:=ab dB w' hw.2;go_simp⟩) hT ?_
   simp only[Act.put,zL,zM,zN]
   refine aw 4 (.slice (some ⟨g,o,none⟩) aQ.length cv) 33 rfl rfl (Or.inl ⟨by rfl,fun w' hw=>by obtain ⟨c0,c1,c2,c3⟩:=a8 hw.1;obtain ⟨x0,x1⟩:=ab dB w' hw.2;go_simp⟩) hT ?_
   simp only[Act.put,zL,zM,zN]
   refine aw 5 (.int .i64 (i:Int)) 34 rfl rfl (Or.inl ⟨by rfl,fun w' hw=>by obtain ⟨c0,c1,c2,c3⟩:=a8 hw.1;obtain ⟨x0,x1⟩:=ab dB w' hw.2;go_simp⟩) hT ?_
   simp only[Act.put,zL,zM,zN]
   refine aw 6 (.pointer (some ⟨g,o+i*2,none⟩)) 35 rfl rfl (Or.inl ⟨by rfl,fun w' hw=>by obtain ⟨c0,c1,c2,c3⟩:=a8 hw.1;obtain ⟨x0,x1⟩:=ab dB w' hw.2;go_simp⟩) hT ?_
   simp only[Act.put,zL,zM,zN]
   refine aw 7 (.pointer (some ⟨g,o+i*2,none⟩)) 36 rfl rfl (Or.inl ⟨by rfl,fun w' hw=>by obtain ⟨c0,c1,c2,c3⟩:=a8 hw.1;obtain ⟨x0,x1⟩:=ab dB w' hw.2;go_simp⟩) hT ?_
   simp only[Act.put,zL,zM,zN]
   refine aw 8 (.string s) 37 rfl rfl (Or.inl ⟨by rfl,fun w' hw=>by obtain ⟨c0,c1,c2,c3⟩:=a8 hw.1;obtain ⟨x0,x1⟩:=ab dB w' hw.2;go_simp⟩) hT ?_
   simp only[Act.put,zL,zM,zN]
   refine aw 9 (.string (s++⟨#[32,61,32]⟩)) 38 rfl rfl (Or.inl ⟨by rfl,fun w' hw=>by obtain ⟨c0,c1,c2,c3⟩:=a8 hw.1;obtain ⟨x0,x1⟩:=ab dB w' hw.2;go_simp;try omega⟩) hT ?_
   simp only[Act.put,zL,zM,zN]
   refine aw 10 (.pointer (some ⟨w.heap.size,1,none⟩)) 39 rfl rfl (Or.inl ⟨by rfl,fun w' hw=>by obtain ⟨c0,c1,c2,c3⟩:=a8 hw.1;obtain ⟨x0,x1⟩:=ab dB w' hw.2;go_simp⟩) hT ?_
   simp only[Act.put,zL,zM,zN]
   refine aw 11 (.slice (some ⟨g,o,none⟩) aQ.length cv) 40 rfl rfl (Or.inl ⟨by rfl,fun w' hw=>by obtain ⟨c0,c1,c2,c3⟩:=a8 hw.1;obtain ⟨x0,x1⟩:=ab dB w' hw.2;go_simp⟩) hT ?_
   simp only[Act.put,zL,zM,zN]
   refine aw 12 (.int .i64 (i:Int)) 41 rfl rfl (Or.inl ⟨by rfl,fun w' hw=>by obtain ⟨c0,c1,c2,c3⟩:=a8 hw.1;obtain ⟨x0,x1⟩:=ab dB w' hw.2;go_simp⟩) hT ?_
   simp only[Act.put,zL,zM,zN]
   refine aw 13 (.pointer (some ⟨g,o+i*2,none⟩)) 42 rfl rfl (Or.inl ⟨by rfl,fun w' hw=>by obtain ⟨c0,c1,c2,c3⟩:=a8 hw.1;obtain ⟨x0,x1⟩:=ab dB w' hw.2;go_simp⟩) hT ?_
   simp only[Act.put,zL,zM,zN]
   refine aw 14 (.pointer (some ⟨g,o+i*2+1,none⟩)) 43 rfl rfl (Or.inl ⟨by rfl,fun w' hw=>by obtain ⟨c0,c1,c2,c3⟩:=a8 hw.1;obtain ⟨x0,x1⟩:=ab dB w' hw.2;go_simp⟩) hT ?_
   simp only[Act.put,zL,zM,zN]
   refine aw 15 (.int .i64 m) 44 rfl rfl (Or.inl ⟨by rfl,fun w' hw=>by obtain ⟨c0,c1,c2,c3⟩:=a8 hw.1;obtain ⟨x0,x1⟩:=ab dB w' hw.2;go_simp⟩) hT ?_
   simp only[Act.put,zL,zM,zN]
   refine aF 16 (by kernel_rfl) rfl (fun K hK=>?_)
   refine aO 45 rfl rfl 59 (fun vs=>by kernel_rfl) #[.tmp 44] #[3] rfl #[.int .i64 m] (by first|rfl|simp[Act.eval]) (ab HD wd) ?_
   rintro e' w4 ⟨rfl,aR⟩
   have JB:=Ik.below aR
   have ZK:Kp pg wd w4:=Kp.below aR
   have hT:w4.heap[w.heap.size]?=some (.cells #[.string nm,.slice (some ⟨g,o,none⟩) aQ.length cv,.slice ar res.length cr,.slice ag gone.length cg] 67 (0,0))∧Below W.heap.size W w4:=⟨(aR.block _ (zA R5).1).trans R5,JB.bW⟩
   refine ⟨_,rfl,hK _ _ ⟨fun _=>hT,?_⟩⟩
   clear hK K aR
   simp only[Act.put,zL,zM,zN]
   refine aw 17 (.string (s++⟨#[32,61,32]⟩++bI m)) 46 rfl rfl (Or.inl ⟨by rfl,fun w' hw=>by obtain ⟨c0,c1,c2,c3⟩:=a8 hw.1;obtain ⟨x0,x1⟩:=ab dB w' hw.2;go_simp;try omega⟩) hT ?_
   simp only[Act.put,zL,zM,zN]
   refine aw 18 (.string (s++⟨#[32,61,32]⟩++bI m++⟨#[59]⟩)) 47 rfl rfl (Or.inl ⟨by rfl,fun w' hw=>by obtain ⟨c0,c1,c2,c3⟩:=a8 hw.1;obtain ⟨x0,x1⟩:=ab dB w' hw.2;go_simp;try omega⟩) hT ?_
   simp only[Act.put,zL,zM,zN]
   refine aF 19 (by kernel_rfl) rfl (fun K hK=>?_)
   have hG:=df JB (n+1) (s++⟨#[32,61,32]⟩++bI m++⟨#[59]⟩) (by omega) (by have:=ab O0;rw[ByteArray.size_append,ByteArray.size_append,ByteArray.size_append];have:(⟨#[32,61,32]⟩:ByteArray).size=3:=rfl;have:(⟨#[59]⟩:ByteArray).size=1:=rfl;omega)
   refine aO 48 rfl rfl 26 (fun vs=>by kernel_rfl) #[.tmp 29,.tmp 31,.tmp 47] #[57,3,9] rfl #[.pointer (some ⟨pg,0,none⟩),.int .i64 ((n:Int)+1),.string (s++⟨#[32,61,32]⟩++bI m++⟨#[59]⟩)] (by first|rfl|simp[Act.eval]) (by first|exact hG|(push_cast at hG;exact hG)) ?_
   rintro e' w5 ⟨rfl,sy,Ww⟩
   have uu:=Ww _ _ _ _ (ab yD) hT.1 (by decide)
   refine ⟨_,rfl,hK _ _ ⟨fun _=>⟨uu,by obtain ⟨_,h⟩:=sy;exact h.bW⟩,?_⟩⟩
   clear hK K hT hG
   refine aZ (by kernel_rfl) ?_
   have lN:Hid (∃v,Pg W pg (L2++(aQ.take (i+1)).flatMap (gw (n+1))) v w5):=by rw[ab th];exact sy
   have sf:=al ((((ab S2).trans Wv).trans ZK).trans Ww)
   have OT:=al uu
   clear sy Ww uu Ik Wv R5 JB ZK ZG
   go_wp2
   go_roundg (aQ.length-(i+1))
   case measure=>have:=ab bz;have:=ab bu;omega
   case rel=>exact ⟨i+1,by go_num,rfl,ab bu,lN,sf,OT⟩
  ·obtain rfl:i=aQ.length:=by omega
   obtain ⟨u,hP⟩:=ab fC
   rw[List.take_length] at hP
   have HG:=al (df hP n ⟨#[125]⟩ (by omega) (by have:=ab HL;have:=ab XZ;rw[zK];have:(⟨#[125]⟩:ByteArray).size=1:=rfl;omega))
   clear hP
   go_wp2_with fail
   refine (ab HG).mono ?_
   rintro e w5 ⟨rfl,sy,jA⟩
   have lN:=al sy
   have sf:=al ((ab S2).trans jA)
   clear sy jA HG
   go_wp2
   go_end0
   exact ⟨rfl,by rw[ab DX];exact ab lN,ab sf⟩
end Go.Proofs.YtichhjfjcinjgaaGreatDoor
namespace Go.Proofs.YtichhjfjcinjgaaGreatDoor
def tQ (gs:List (List Fd)):Int:=match gs[gs.length-1]? with
 |some (a::_)=>a.aE
 |_=>0
theorem wz (gs:List (List Fd)) (a:Fd) (q:List Fd):tQ (gs++[a::q])=a.aE:=by simp[tQ]
theorem wI {gs:List (List Fd)}{d:Fd} (h:lL gs d=true):∃a c q,gs=a++[c::q]∧c.aE≠0∧c.aE=d.aE∧mN gs d=a++[(c::q)++[d]]:=by
 have Tu:=h
 unfold lL at h
 have iI:gs≠[]:=by rintro rfl;simp at h
 obtain ⟨G,a,rfl⟩:∃G a,gs=a++[G]:=⟨_,_,(List.dropLast_concat_getLast iI).symm⟩
 cases G with
 |nil=>simp at h
 |cons c q =>
  have h2:c.aE≠0∧c.aE=d.aE:=by simpa[tR] using h
  refine ⟨a,c,q,rfl,h2.1,h2.2,?_⟩
  unfold mN
  rw[if_pos Tu]
  simp
theorem xY {gs:List (List Fd)}{d:Fd} (h:¬lL gs d=true):mN gs d=gs++[([d])]:=by unfold mN;rw[if_neg h]
theorem pK {gs:List (List Fd)}{d:Fd}:lL gs d=true↔tQ gs≠0∧tQ gs=d.aE:=by
 unfold lL tQ
 cases gs[gs.length-1]? with
 |none=>simp
 |some G =>
  cases G with
  |nil=>simp
  |cons a q=>simp[tR]
theorem wu (fs:List Fd):∀i,i≤fs.length→tQ (ck (fs.take i))=fb fs i:=by
 intro i
 induction i with
 |zero=>intro _;rfl
 |succ i ih =>
  intro h
  have hl:fs[i]?=some fs[i]:=List.getElem?_eq_getElem (by omega)
  have hp:fb fs (i+1)=fs[i].aE:=by unfold fb;simp only;rw[hl]
  rw[gZ hl,hp]
  by_cases hc:lL (ck (fs.take i)) fs[i]=true
  ·obtain ⟨a,c,q,-,-,h3,h4⟩:=wI hc
   rw[h4]
   show tQ (a++[c::(q++[fs[i]])])=_
   rw[wz,h3]
  ·rw[xY hc,wz]
def EU (n:Nat) (os:List ByteArray) (G:List Fd):List Nat:=match G with
 |[]=>[]
 |d::_=>aV n [gW,⟨#[32]⟩,os.getD (d.aE.toNat-1) ⟨#[]⟩,⟨#[32,123]⟩]++G.flatMap (bS (n+1))
def eg (n:Nat) (os:List ByteArray) (fs:List Fd) (i:Nat):List Nat:=if fb fs i≠0∧(fs[i]?).map Fd.aE=some (fb fs i) then ((ck (fs.take i)).dropLast.flatMap (dF n os))++EU n os ((ck (fs.take i)).getLastD []) else (ck (fs.take i)).flatMap (dF n os)
theorem Cr {n:Nat}{os:List ByteArray}{c:Fd}{q:List Fd} (h:c.aE≠0):dF n os (c::q)=EU n os (c::q)++aV n [⟨#[125]⟩]:=by
 unfold dF EU cn
 simp only
 rw[if_pos h]
theorem WI (n:Nat) (os:List ByteArray) (fs:List Fd):eg n os fs 0=[]:=by
 unfold eg
 rw[if_neg (fun h=>h.1 rfl)]
 rfl
theorem CB (n:Nat) (os:List ByteArray) (fs:List Fd):eg n os fs fs.length=(ck fs).flatMap (dF n os):=by
 unfold eg
 rw[if_neg (fun h=>by have:=h.2;rw[List.getElem?_eq_none (zD _)] at this;cases this),List.take_length]
theorem x9 {n:Nat}{os:List ByteArray}{fs:List Fd}{i:Nat}{d:Fd} (h:fs[i]?=some d) (h0:d.aE=0):eg n os fs (i+1)=eg n os fs i++bS n d:=by
 have hi:=(zB h).1
 have hp:fb fs (i+1)=d.aE:=by unfold fb;simp only;rw[h]
 have hl:=wu fs i (by omega)
 have hc:¬lL (ck (fs.take i)) d=true:=fun k=>by have:=pK.1 k;rw[h0] at this;exact this.1 this.2
 have e1:eg n os fs (i+1)=(ck (fs.take (i+1))).flatMap (dF n os):=by unfold eg;rw[if_neg (fun k=>k.1 (hp.trans h0))]
 have e2:eg n os fs i=(ck (fs.take i)).flatMap (dF n os):=by
  unfold eg
  rw[if_neg]
  rintro ⟨k1,k2⟩
  rw[h] at k2
  exact k1 ((zC k2).symm.trans h0)
 rw[e1,e2,gZ h,xY hc,List.flatMap_append]
 congr 1
 simp[dF,h0]
theorem ID {n:Nat}{os:List ByteArray}{fs:List Fd}{i:Nat}{d:Fd} (h:fs[i]?=some d) (h0:d.aE≠0) :
  eg n os fs (i+1)=eg n os fs i++(if fb fs i≠d.aE then aV n [gW,⟨#[32]⟩,os.getD (d.aE.toNat-1) ⟨#[]⟩,⟨#[32,123]⟩] else [])++bS (n+1) d++(if (fs[i+1]?).map Fd.aE≠some d.aE then aV n [⟨#[125]⟩] else []):=by
 have hi:=(zB h).1
 have hp:fb fs (i+1)=d.aE:=by unfold fb;simp only;rw[h]
 have hl:=wu fs i (by omega)
 have key:∃a c q,ck (fs.take (i+1))=a++[c::q]∧c.aE≠0∧a.flatMap (dF n os)++EU n os (c::q)=eg n os fs i++(if fb fs i≠d.aE then aV n [gW,⟨#[32]⟩,os.getD (d.aE.toNat-1) ⟨#[]⟩,⟨#[32,123]⟩] else [])++bS (n+1) d:=by
  rw[gZ h]
  by_cases hb:fb fs i=d.aE
  ·have hc:lL (ck (fs.take i)) d=true:=pK.2 ⟨by rw[hl,hb];exact h0,hl.trans hb⟩
   obtain ⟨a,c,q,e1,e2,-,e4⟩:=wI hc
   refine ⟨a,c,q++[d],e4,e2,?_⟩
   rw[if_neg (fun k=>k hb)]
   unfold eg
   rw[if_pos ⟨by rw[hb];exact h0,by rw[h,hb];rfl⟩,e1,List.dropLast_concat]
   simp[EU]
  ·have hc:¬lL (ck (fs.take i)) d=true:=fun k=>hb (by rw[←hl];exact (pK.1 k).2)
   refine ⟨_,d,[],xY hc,h0,?_⟩
   rw[if_pos hb]
   have e2:eg n os fs i=(ck (fs.take i)).flatMap (dF n os):=by
    unfold eg
    rw[if_neg]
    rintro ⟨k1,k2⟩
    rw[h] at k2
    exact hb (zC k2).symm
   rw[e2]
   simp[EU]
 obtain ⟨a,c,q,k1,k2,k3⟩:=key
 rw[←k3]
 unfold eg
 rw[hp,k1]
 by_cases hn:(fs[i+1]?).map Fd.aE=some d.aE
 ·rw[if_pos ⟨h0,hn⟩,if_neg (fun k=>k hn),List.dropLast_concat,List.append_nil]
  simp
 ·rw[if_neg (fun k=>hn k.2),if_pos hn,List.flatMap_append,List.append_assoc]
  congr 1
  simp only[List.flatMap_cons,List.flatMap_nil,List.append_nil]
  exact Cr k2
theorem Mm (n:Nat) (os:List ByteArray) (fs:List Fd):∀k i,i+k≤fs.length→(eg n os fs i).length≤(eg n os fs (i+k)).length:=by
 have step:∀i,i<fs.length→(eg n os fs i).length≤(eg n os fs (i+1)).length:=by
  intro i hi
  have h:fs[i]?=some fs[i]:=List.getElem?_eq_getElem hi
  by_cases h0:fs[i].aE=0
  ·rw[x9 h h0,zK];omega
  ·rw[ID h h0,zK,zK,zK];omega
 intro k
 induction k with
 |zero=>intro i _;exact zD _
 |succ k ih=>intro i h;exact Nat.le_trans (ih i (by omega)) (step (i+k) (by omega))
theorem tN (n:Nat) (x:Int):j8 n x=if (n:Int)≤x then some (x-n) else none:=by
 unfold j8
 by_cases h:(n:Int)≤x
 ·rw[if_pos (by omega),if_pos h]
 ·rw[if_neg (by omega),if_neg h]
theorem o6 {α:Type}{q:α→Int→Option Int}{p:α→Bool}{c:α→Nat}:∀(l:List α),(∀a ∈ l,∀x,0≤x→q a x=if p a=true∧(c a:Int)≤x then some (x-c a) else none)→∀x,0≤x→jV q l x=if l.all p=true∧(bE c l:Int)≤x then some (x-bE c l) else none
 |[],_,x,hx=>by
  unfold jV bE
  rw[if_pos ⟨rfl,by omega⟩]
  simp
 |a::l,h,x,hx=>by
  have ih:=o6 l (fun b hb=>h b (zF _ hb))
  unfold jV
  rw[h a (List.mem_cons_self ..) x hx,List.all_cons]
  have hs:(bE c (a::l):Int)=c a+bE c l:=by rw[bE];push_cast;rfl
  rw[hs]
  by_cases hp:p a=true
  ·by_cases hc:(c a:Int)≤x
   ·rw[if_pos ⟨hp,hc⟩]
    simp only
    rw[ih _ (by omega),hp,Bool.true_and]
    by_cases h2:l.all p=true∧(bE c l:Int)≤x-c a
    ·rw[if_pos h2,if_pos ⟨h2.1,by omega⟩]
     congr 1
     omega
    ·rw[if_neg h2,if_neg (fun h3=>h2 ⟨h3.1,by omega⟩)]
   ·rw[if_neg (fun k=>hc k.2),if_neg (fun k=>hc (by have:=k.2;omega))]
  ·rw[if_neg (fun k=>hp k.1),if_neg (fun k=>by simp[hp] at k)]
def DI (e:En):Nat:=e.aQ.length+e.res.length+e.gone.length
def A4:Nat→Ms→Nat
 |0,_=>0
 |f+1,.mk _ fs os ms es rs gs=>fs.length+os.length+ms.length+es.length+rs.length+gs.length+bE (A4 f) ms+bE DI es
theorem AD (e:En) (x:Int):iC e x=if bc e=true∧(DI e:Int)≤x then some (x-DI e) else none:=by
 unfold iC
 rw[tN]
 show (match (if ((DI e:Nat):Int)≤x then some (x-(DI e:Nat)) else none) with|none=>none|some x1=>if bc e=true then some x1 else none)=_
 by_cases h:(DI e:Int)≤x
 ·rw[if_pos h]
  by_cases h2:bc e=true
  ·rw[if_pos ⟨h2,h⟩];simp only;rw[if_pos h2]
  ·rw[if_neg (fun k=>h2 k.1)];simp only;rw[if_neg h2]
 ·rw[if_neg h,if_neg (fun k=>h k.2)]
theorem Kn (nm:ByteArray) (fs:List Fd) (os:List ByteArray) (rs:List (Int×Int)) (gs:List ByteArray) (b:Bool):(bD nm&&((rs.all (gf 1 536870911)&&gs.all bD)&&(A3 fs os.length&&(os.all bD&&(fs.all cK&&b)))))=(tL nm fs os rs gs&&b):=by
 unfold tL
 cases bD nm<;>cases os.all bD<;>cases fs.all cK<;>cases A3 fs os.length<;>cases rs.all (gf 1 536870911)<;>cases gs.all bD<;>cases b<;>rfl
theorem GG:∀(f:Nat) (m:Ms) (x:Int),0≤x→nG f m x=if gX f m=true∧(A4 f m:Int)≤x then some (x-A4 f m) else none
 |0,_,x,_=>by
  unfold nG gX
  rw[if_neg (fun k=>by cases k.1)]
 |f+1,.mk nm fs os ms es rs gs,x,hx=>by
  have h1:=o6 (q:=nG f) (p:=gX f) (c:=A4 f) ms (fun m _ x hx=>GG f m x hx)
  have h2:=o6 (q:=iC) (p:=bc) (c:=DI) es (fun e _ x _=>AD e x)
  obtain ⟨k,hk⟩:∃k,fs.length+os.length+ms.length+es.length+rs.length+gs.length=k:=⟨_,rfl⟩
  have hM:A4 (f+1) (.mk nm fs os ms es rs gs)=k+bE (A4 f) ms+bE DI es:=by rw[←hk];rfl
  have hB:gX (f+1) (.mk nm fs os ms es rs gs)=(tL nm fs os rs gs&&(es.all bc&&ms.all (gX f))):=Kn nm fs os rs gs _
  rw[hM,hB,nG,hk,tN]
  by_cases c1:(k:Int)≤x
  ·rw[if_pos c1]
   simp only
   by_cases c2:tL nm fs os rs gs=true
   ·rw[if_pos c2,h1 _ (by omega),c2,Bool.true_and]
    by_cases c3:ms.all (gX f)=true∧(bE (A4 f) ms:Int)≤x-k
    ·rw[if_pos c3]
     simp only
     rw[h2 _ (by omega),c3.1,Bool.and_true]
     by_cases c4:es.all bc=true∧(bE DI es:Int)≤x-k-bE (A4 f) ms
     ·rw[if_pos c4,if_pos ⟨c4.1,by push_cast;omega⟩]
      congr 1
      push_cast
      omega
     ·rw[if_neg c4,if_neg (fun h=>c4 ⟨h.1,by have:=h.2;push_cast at this;omega⟩)]
    ·rw[if_neg c3,if_neg]
     rintro ⟨h3,h4⟩
     rw[Bool.and_eq_true] at h3
     exact c3 ⟨h3.2,by push_cast at h4;omega⟩
   ·rw[if_neg c2,if_neg]
    rintro ⟨h3,-⟩
    rw[Bool.and_eq_true] at h3
    exact c2 h3.1
  ·rw[if_neg c1,if_neg (fun h=>c1 (by have:=h.2;push_cast at this;omega))]
theorem sj {α:Type}{c d:α→Nat}:∀(l:List α),(∀a ∈ l,c a=1+d a)→bE c l=l.length+bE d l
 |[],_=>rfl
 |a::l,h=>by
  rw[bE,bE,h a (List.mem_cons_self ..),sj l (fun b hb=>h b (zF _ hb)),List.length_cons]
  omega
theorem IB (l:List En):bE kl l=l.length+bE DI l:=sj l (fun e _=>by unfold kl DI;omega)
theorem DM:∀(f:Nat) (m:Ms),gX f m=true→cQ f m=1+A4 f m
 |0,_,h=>by cases h
 |f+1,.mk nm fs os ms es rs gs,h=>by
  unfold gX at h
  simp only[Bool.and_eq_true] at h
  have h1:=sj (c:=cQ f) (d:=A4 f) ms (fun m hm=>DM f m (List.all_eq_true.1 h.2.2.2.2.2.2 m hm))
  have h2:=IB es
  unfold cQ A4
  omega
theorem Cy (F:Fl):(lD F).isSome=DE F:=by
 unfold lD DE
 cases hp:(F.jL.toList.isEmpty ||dx F.jL) with
 |false=>rw[if_neg (by decide)];rfl
 |true =>
  rw[if_pos rfl,Bool.true_and,tN]
  have h1:=o6 (q:=nG 32) (p:=gX 32) (c:=A4 32) F.ms (fun m _ x hx=>GG 32 m x hx)
  have h2:=o6 (q:=iC) (p:=bc) (c:=DI) F.es (fun e _ x _=>AD e x)
  have h3:=IB F.es
  by_cases c0:F.cV.all dr=true
  ·rw[c0,Bool.true_and]
   by_cases c1:F.ms.all (gX 32)=true
   ·have h4:=sj (c:=cQ 32) (d:=A4 32) F.ms (fun m hm=>DM 32 m (List.all_eq_true.1 c1 m hm))
    rw[c1,Bool.true_and]
    have hN:mf F=F.cV.length+F.ms.length+F.es.length+bE (A4 32) F.ms+bE DI F.es:=by unfold mf;omega
    rw[hN]
    by_cases c2:((F.cV.length+F.ms.length+F.es.length:Nat):Int)≤4096
    ·rw[if_pos c2]
     simp only
     rw[if_pos trivial,h1 _ (by omega),c1]
     by_cases c3:(bE (A4 32) F.ms:Int)≤4096-((F.cV.length+F.ms.length+F.es.length:Nat):Int)
     ·rw[if_pos ⟨rfl,c3⟩]
      simp only
      rw[h2 _ (by omega)]
      cases c4:F.es.all bc with
      |false=>rw[if_neg (fun h=>by cases h.1)];rfl
      |true =>
       rw[Bool.true_and]
       by_cases c5:(bE DI F.es:Int)≤4096-((F.cV.length+F.ms.length+F.es.length:Nat):Int)-bE (A4 32) F.ms
       ·rw[if_pos ⟨rfl,c5⟩,decide_eq_true (by omega)];rfl
       ·rw[if_neg (fun h=>c5 h.2),decide_eq_false (by omega)];rfl
     ·rw[if_neg (fun h=>c3 h.2),decide_eq_false (by omega),Bool.and_false];rfl
    ·rw[if_neg c2,decide_eq_false (by omega),Bool.and_false];rfl
   ·have Lo:F.ms.all (gX 32)=false:=by cases h:F.ms.all (gX 32) with|false=>rfl|true=>exact absurd h c1
    rw[Lo,Bool.false_and]
    split
    ·rfl
    ·rename_i x1 FD
     have B9:0≤x1:=by
      split at FD
      ·obtain rfl:=zC FD;omega
      ·cases FD
     rw[if_pos rfl,h1 _ B9,Lo,if_neg (fun h=>by cases h.1)]
     rfl
  ·have c0':F.cV.all dr=false:=by cases h:F.cV.all dr with|false=>rfl|true=>exact absurd h c0
   rw[c0',Bool.false_and]
   split
   ·rfl
   ·rw[if_neg (by decide)];rfl
end Go.Proofs.YtichhjfjcinjgaaGreatDoor

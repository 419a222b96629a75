import Derived.Test.YtjophoclfccmcaaGreatDoorPbF
set_option maxHeartbeats 4000000
set_option maxRecDepth 100000
namespace Go.Proofs.YtjophoclfccmcaaGreatDoor
open Go.RowKit
attribute [local go_sem ↓] Go.wp_at_zero Go.wp_at_succ
theorem Nu {α:Type}{lo b g:Nat}{nm:ByteArray}{ss:List Slot}{N:(Nat→Prop)→World→Prop}{V W w0:World}{s:ay}{sl:Slot}{r:Except (Int×Int) (α×ay)}{N1:α→Value→(Nat→Prop)→World→Prop}{pm pr bt:Nat} (h:Ap lo b g 49 nm ss N V W s w0) (hN:aQ N) (jt:∀a x,aQ (N1 a x)) (hi:ss[0]?=some sl) (eo:Fit 46 sl bt N1) (hn:sl.n≤100000)
  (eP:∀P w,N P w→∀c ∈ ([(pm,#[.pointer (some ⟨g,0,none⟩)],158),(pr,#[.pointer (some ⟨b,0,none⟩)],74)]:List (Nat×Array Value×TypeId)),aW c.1 c.2.1 c.2.2 P w) (c8:∀w,Ap lo b g 49 nm ss N V W s w→Calls Tryz.prog 151 #[.pointer (some ⟨b,0,none⟩),.int .i64 2] w (CR lo b N1 w r)) :
  Calls Tryz.prog 150 #[.pointer (some ⟨pm,0,none⟩),.pointer (some ⟨pr,0,none⟩)] w0 (CP lo b g 49 nm ss N V W 0 sl r N1):=by
 obtain ⟨va,vn,vc,hv⟩:=aU (h.bx.own 0 sl hi)
 obtain ⟨ei,mj,pd,sd,fx⟩:=eo
 have cJ:=Ph.base (lo:=lo) (b:=b) (g:=g) (T:=49) (nm:=nm) (V:=V) (W:=W) (s:=s) (r:=r) (N1:=N1) eP hi
 have hd:=h.up hN (zE w0.heap.size w0).drew
 go_enter Tryz.func150,Tryz.ntmps150
 refine du (z:=11) (N:=13) (c:=6) (by kernel_rfl) (fun k=>k+2) (fun k=>[.pointer (some ⟨g,0,none⟩),.pointer (some ⟨g,0,none⟩),.pointer (some ⟨g,0,none⟩),.pointer (some ⟨g,1,none⟩),sl.v,.pointer (some ⟨b,0,none⟩),undef,undef,undef,.pointer (some ⟨g,0,none⟩),.pointer (some ⟨g,1,none⟩)].getD k undef) (Ph lo b g 49 nm ss N V W s sl r N1) _ w0 rfl rfl (fun i j _ _ e=>by omega) (fun i hi=>by omega) (by kernel_rfl) (by omega) (by kernel_rfl) (by kernel_rfl) (by kernel_rfl) hd ?_ ?_ ?_ ?_ ?_
 ·intro k tm w hk hq ck cA a8 bJ
  obtain ⟨ph,x,bJ⟩:=bJ
  have hB:=cJ ph x w bJ
  match k,hk with
  |0,_=>exact aY rfl rfl _ (.tmp 0) rfl (cA 0 (by intro i hi;omega)) (cT w (hB.cell (List.mem_cons_self ..) rfl)) ⟨rfl,rfl⟩
  |1,_=>exact aY rfl rfl _ (.tmp 0) rfl (cA 0 (by intro i hi;omega)) (cT w (hB.cell (List.mem_cons_self ..) rfl)) ⟨rfl,rfl⟩
  |2,_=>exact bc rfl rfl (.tmp 3) rfl (a8 1 (by omega) (by kernel_rfl)) ⟨rfl,rfl⟩
  |3,_=>exact bV rfl rfl _ (.tmp 4) _ rfl (a8 2 (by omega) (by kernel_rfl)) (jB w) ⟨rfl,rfl⟩
  |4,_=>exact aY rfl rfl _ (.tmp 5) rfl (a8 3 (by omega) (by kernel_rfl)) (by rw[hv];exact rl w (by rw[←hv];exact hB.row hi)) ⟨rfl,rfl⟩
  |5,_=>exact aY rfl rfl _ (.tmp 1) rfl (cA 1 (by intro i hi;omega)) (dh w (hB.cell (zF _ (List.mem_cons_self ..)) rfl)) ⟨rfl,rfl⟩
  |6,_=>omega
  |7,_=>omega
  |8,_=>omega
  |9,_=>exact bc rfl rfl (.tmp 2) rfl (a8 0 (by omega) (by kernel_rfl)) ⟨rfl,rfl⟩
  |10,_=>exact bV rfl rfl _ (.tmp 11) _ rfl (a8 9 (by omega) (by kernel_rfl)) (jB w) ⟨rfl,rfl⟩
 ·intro tm w ck cA a8 bJ
  have bd:Ap lo b g 49 nm ss N V W s w:=bJ
  refine cF rfl rfl 151 (rV w) _ _ rfl #[.pointer (some ⟨b,0,none⟩),.int .i64 2] ?_ (c8 w bd) ?_
  ·simp only[List.map_toArray,List.map_cons,List.map_nil,Act.eval]
   rw[show tm.getD 7 undef=_ from a8 5 (by omega) (by kernel_rfl)]
   rfl
  ·intro e w' kz
   rcases Ph.call hN jt bJ kz with ⟨x,rfl,h1⟩|⟨y,hr,rfl,hs⟩
   ·exact .inl ⟨x,rfl,x,rfl,h1⟩
   ·exact .inr ⟨_,rfl,rfl,by unfold CP;rw[hr];exact ⟨rfl,hs⟩⟩
 ·intro tm w x ck hx bJ
  obtain ⟨a,s',hr,iK,bd⟩:=id bJ
  obtain ⟨f1,f2,f3⟩:=fx a x _ _ iK
  exact kj rfl rfl _ _ _ rfl #[(0,x)] (by simp only[List.map_toArray,List.map_cons,List.map_nil,Act.eval];rw[show tm.getD 8 undef=x from hx]) (f3 w) ⟨_,rfl,Ph.bs hN jt bJ⟩
 ·intro tm w y ck a8 hy bJ
  obtain ⟨a,s',x,gy,hr,rfl,sN,iK,bd⟩:=id bJ
  obtain ⟨f1,f2,f3⟩:=fx a x _ _ iK
  have hl:=bd.bx.lt
  refine cu w rfl rfl (.tmp 6) (.tmp 9) 46 rfl (g+1) sl.t sl.sz bt mj ei pd sl.v sl.n sl.xs (a8 4 (by omega) (by kernel_rfl)) (bd.bx.own 0 sl hi) ⟨gy,0,none⟩ 1 1 x.cells.toList hy (by rw[Array.length_toList,f1];omega) (ef sN) f2 (by unfold maxLen;omega) (by have:(sl.n+1)*bt≤100001*1000:=Nat.mul_le_mul (by omega) sd;omega) (by omega) ?_
  intro v' w' h1 h2 h3
  exact ⟨v',rfl,Ph.app hr bd h2 h1 h3⟩
 ·intro tm w y ck cA dA hy bJ
  have hB:=cJ 3 y w bJ
  obtain ⟨a,s',x,w2,hr,h1,h2,h3,h4⟩:=id bJ
  obtain ⟨ya,yn,yc,rfl⟩:=aU h3
  refine eh rfl rfl _ (.tmp 12) (.tmp 10) rfl (dA 10 (by omega) (by omega)) hy (qT w (hB.row hi) (hB.frozen _)) ?_
  go_end0
  exact Ph.last hN jt hi bJ
theorem Nt {α:Type}{lo b g:Nat}{nm:ByteArray}{ss:List Slot}{N:(Nat→Prop)→World→Prop}{V W w0:World}{s:ay}{sl:Slot}{r:Except (Int×Int) (α×ay)}{N1:α→Value→(Nat→Prop)→World→Prop}{pm pr bt:Nat} (h:Ap lo b g 49 nm ss N V W s w0) (hN:aQ N) (jt:∀a x,aQ (N1 a x)) (hi:ss[0]?=some sl) (eo:Fit 46 sl bt N1) (hn:sl.n≤100000)
  (eP:∀P w,N P w→∀c ∈ ([(pm,#[.pointer (some ⟨g,0,none⟩)],158),(pr,#[.pointer (some ⟨b,0,none⟩)],74)]:List (Nat×Array Value×TypeId)),aW c.1 c.2.1 c.2.2 P w) (c8:∀w,Ap lo b g 49 nm ss N V W s w→Calls Tryz.prog 151 #[.pointer (some ⟨b,0,none⟩),.int .i64 3] w (CR lo b N1 w r)) :
  Calls Tryz.prog 152 #[.pointer (some ⟨pm,0,none⟩),.pointer (some ⟨pr,0,none⟩)] w0 (CP lo b g 49 nm ss N V W 0 sl r N1):=by
 obtain ⟨va,vn,vc,hv⟩:=aU (h.bx.own 0 sl hi)
 obtain ⟨ei,mj,pd,sd,fx⟩:=eo
 have cJ:=Ph.base (lo:=lo) (b:=b) (g:=g) (T:=49) (nm:=nm) (V:=V) (W:=W) (s:=s) (r:=r) (N1:=N1) eP hi
 have hd:=h.up hN (zE w0.heap.size w0).drew
 go_enter Tryz.func152,Tryz.ntmps152
 refine du (z:=11) (N:=13) (c:=6) (by kernel_rfl) (fun k=>k+2) (fun k=>[.pointer (some ⟨g,0,none⟩),.pointer (some ⟨g,0,none⟩),.pointer (some ⟨g,0,none⟩),.pointer (some ⟨g,1,none⟩),sl.v,.pointer (some ⟨b,0,none⟩),undef,undef,undef,.pointer (some ⟨g,0,none⟩),.pointer (some ⟨g,1,none⟩)].getD k undef) (Ph lo b g 49 nm ss N V W s sl r N1) _ w0 rfl rfl (fun i j _ _ e=>by omega) (fun i hi=>by omega) (by kernel_rfl) (by omega) (by kernel_rfl) (by kernel_rfl) (by kernel_rfl) hd ?_ ?_ ?_ ?_ ?_
 ·intro k tm w hk hq ck cA a8 bJ
  obtain ⟨ph,x,bJ⟩:=bJ
  have hB:=cJ ph x w bJ
  match k,hk with
  |0,_=>exact aY rfl rfl _ (.tmp 0) rfl (cA 0 (by intro i hi;omega)) (cT w (hB.cell (List.mem_cons_self ..) rfl)) ⟨rfl,rfl⟩
  |1,_=>exact aY rfl rfl _ (.tmp 0) rfl (cA 0 (by intro i hi;omega)) (cT w (hB.cell (List.mem_cons_self ..) rfl)) ⟨rfl,rfl⟩
  |2,_=>exact bc rfl rfl (.tmp 3) rfl (a8 1 (by omega) (by kernel_rfl)) ⟨rfl,rfl⟩
  |3,_=>exact bV rfl rfl _ (.tmp 4) _ rfl (a8 2 (by omega) (by kernel_rfl)) (jB w) ⟨rfl,rfl⟩
  |4,_=>exact aY rfl rfl _ (.tmp 5) rfl (a8 3 (by omega) (by kernel_rfl)) (by rw[hv];exact rl w (by rw[←hv];exact hB.row hi)) ⟨rfl,rfl⟩
  |5,_=>exact aY rfl rfl _ (.tmp 1) rfl (cA 1 (by intro i hi;omega)) (dh w (hB.cell (zF _ (List.mem_cons_self ..)) rfl)) ⟨rfl,rfl⟩
  |6,_=>omega
  |7,_=>omega
  |8,_=>omega
  |9,_=>exact bc rfl rfl (.tmp 2) rfl (a8 0 (by omega) (by kernel_rfl)) ⟨rfl,rfl⟩
  |10,_=>exact bV rfl rfl _ (.tmp 11) _ rfl (a8 9 (by omega) (by kernel_rfl)) (jB w) ⟨rfl,rfl⟩
 ·intro tm w ck cA a8 bJ
  have bd:Ap lo b g 49 nm ss N V W s w:=bJ
  refine cF rfl rfl 151 (rV w) _ _ rfl #[.pointer (some ⟨b,0,none⟩),.int .i64 3] ?_ (c8 w bd) ?_
  ·simp only[List.map_toArray,List.map_cons,List.map_nil,Act.eval]
   rw[show tm.getD 7 undef=_ from a8 5 (by omega) (by kernel_rfl)]
   rfl
  ·intro e w' kz
   rcases Ph.call hN jt bJ kz with ⟨x,rfl,h1⟩|⟨y,hr,rfl,hs⟩
   ·exact .inl ⟨x,rfl,x,rfl,h1⟩
   ·exact .inr ⟨_,rfl,rfl,by unfold CP;rw[hr];exact ⟨rfl,hs⟩⟩
 ·intro tm w x ck hx bJ
  obtain ⟨a,s',hr,iK,bd⟩:=id bJ
  obtain ⟨f1,f2,f3⟩:=fx a x _ _ iK
  exact kj rfl rfl _ _ _ rfl #[(0,x)] (by simp only[List.map_toArray,List.map_cons,List.map_nil,Act.eval];rw[show tm.getD 8 undef=x from hx]) (f3 w) ⟨_,rfl,Ph.bs hN jt bJ⟩
 ·intro tm w y ck a8 hy bJ
  obtain ⟨a,s',x,gy,hr,rfl,sN,iK,bd⟩:=id bJ
  obtain ⟨f1,f2,f3⟩:=fx a x _ _ iK
  have hl:=bd.bx.lt
  refine cu w rfl rfl (.tmp 6) (.tmp 9) 46 rfl (g+1) sl.t sl.sz bt mj ei pd sl.v sl.n sl.xs (a8 4 (by omega) (by kernel_rfl)) (bd.bx.own 0 sl hi) ⟨gy,0,none⟩ 1 1 x.cells.toList hy (by rw[Array.length_toList,f1];omega) (ef sN) f2 (by unfold maxLen;omega) (by have:(sl.n+1)*bt≤100001*1000:=Nat.mul_le_mul (by omega) sd;omega) (by omega) ?_
  intro v' w' h1 h2 h3
  exact ⟨v',rfl,Ph.app hr bd h2 h1 h3⟩
 ·intro tm w y ck cA dA hy bJ
  have hB:=cJ 3 y w bJ
  obtain ⟨a,s',x,w2,hr,h1,h2,h3,h4⟩:=id bJ
  obtain ⟨ya,yn,yc,rfl⟩:=aU h3
  refine eh rfl rfl _ (.tmp 12) (.tmp 10) rfl (dA 10 (by omega) (by omega)) hy (qT w (hB.row hi) (hB.frozen _)) ?_
  go_end0
  exact Ph.last hN jt hi bJ
theorem Ns {α:Type}{lo b g:Nat}{nm:ByteArray}{ss:List Slot}{N:(Nat→Prop)→World→Prop}{V W w0:World}{s:ay}{sl:Slot}{r:Except (Int×Int) (α×ay)}{N1:α→Value→(Nat→Prop)→World→Prop}{pm pr bt:Nat} (h:Ap lo b g 49 nm ss N V W s w0) (hN:aQ N) (jt:∀a x,aQ (N1 a x)) (hi:ss[0]?=some sl) (eo:Fit 46 sl bt N1) (hn:sl.n≤100000)
  (eP:∀P w,N P w→∀c ∈ ([(pm,#[.pointer (some ⟨g,0,none⟩)],158),(pr,#[.pointer (some ⟨b,0,none⟩)],74)]:List (Nat×Array Value×TypeId)),aW c.1 c.2.1 c.2.2 P w) (c8:∀w,Ap lo b g 49 nm ss N V W s w→Calls Tryz.prog 154 #[.pointer (some ⟨b,0,none⟩)] w (CR lo b N1 w r)) :
  Calls Tryz.prog 153 #[.pointer (some ⟨pm,0,none⟩),.pointer (some ⟨pr,0,none⟩)] w0 (CP lo b g 49 nm ss N V W 0 sl r N1):=by
 obtain ⟨va,vn,vc,hv⟩:=aU (h.bx.own 0 sl hi)
 obtain ⟨ei,mj,pd,sd,fx⟩:=eo
 have cJ:=Ph.base (lo:=lo) (b:=b) (g:=g) (T:=49) (nm:=nm) (V:=V) (W:=W) (s:=s) (r:=r) (N1:=N1) eP hi
 have hd:=h.up hN (zE w0.heap.size w0).drew
 go_enter Tryz.func153,Tryz.ntmps153
 refine du (z:=11) (N:=13) (c:=6) (by kernel_rfl) (fun k=>k+2) (fun k=>[.pointer (some ⟨g,0,none⟩),.pointer (some ⟨g,0,none⟩),.pointer (some ⟨g,0,none⟩),.pointer (some ⟨g,1,none⟩),sl.v,.pointer (some ⟨b,0,none⟩),undef,undef,undef,.pointer (some ⟨g,0,none⟩),.pointer (some ⟨g,1,none⟩)].getD k undef) (Ph lo b g 49 nm ss N V W s sl r N1) _ w0 rfl rfl (fun i j _ _ e=>by omega) (fun i hi=>by omega) (by kernel_rfl) (by omega) (by kernel_rfl) (by kernel_rfl) (by kernel_rfl) hd ?_ ?_ ?_ ?_ ?_
 ·intro k tm w hk hq ck cA a8 bJ
  obtain ⟨ph,x,bJ⟩:=bJ
  have hB:=cJ ph x w bJ
  match k,hk with
  |0,_=>exact aY rfl rfl _ (.tmp 0) rfl (cA 0 (by intro i hi;omega)) (cT w (hB.cell (List.mem_cons_self ..) rfl)) ⟨rfl,rfl⟩
  |1,_=>exact aY rfl rfl _ (.tmp 0) rfl (cA 0 (by intro i hi;omega)) (cT w (hB.cell (List.mem_cons_self ..) rfl)) ⟨rfl,rfl⟩
  |2,_=>exact bc rfl rfl (.tmp 3) rfl (a8 1 (by omega) (by kernel_rfl)) ⟨rfl,rfl⟩
  |3,_=>exact bV rfl rfl _ (.tmp 4) _ rfl (a8 2 (by omega) (by kernel_rfl)) (jB w) ⟨rfl,rfl⟩
  |4,_=>exact aY rfl rfl _ (.tmp 5) rfl (a8 3 (by omega) (by kernel_rfl)) (by rw[hv];exact rl w (by rw[←hv];exact hB.row hi)) ⟨rfl,rfl⟩
  |5,_=>exact aY rfl rfl _ (.tmp 1) rfl (cA 1 (by intro i hi;omega)) (dh w (hB.cell (zF _ (List.mem_cons_self ..)) rfl)) ⟨rfl,rfl⟩
  |6,_=>omega
  |7,_=>omega
  |8,_=>omega
  |9,_=>exact bc rfl rfl (.tmp 2) rfl (a8 0 (by omega) (by kernel_rfl)) ⟨rfl,rfl⟩
  |10,_=>exact bV rfl rfl _ (.tmp 11) _ rfl (a8 9 (by omega) (by kernel_rfl)) (jB w) ⟨rfl,rfl⟩
 ·intro tm w ck cA a8 bJ
  have bd:Ap lo b g 49 nm ss N V W s w:=bJ
  refine cF rfl rfl 154 (ze w) _ _ rfl #[.pointer (some ⟨b,0,none⟩)] ?_ (c8 w bd) ?_
  ·simp only[List.map_toArray,List.map_cons,List.map_nil,Act.eval]
   rw[show tm.getD 7 undef=_ from a8 5 (by omega) (by kernel_rfl)]
   rfl
  ·intro e w' kz
   rcases Ph.call hN jt bJ kz with ⟨x,rfl,h1⟩|⟨y,hr,rfl,hs⟩
   ·exact .inl ⟨x,rfl,x,rfl,h1⟩
   ·exact .inr ⟨_,rfl,rfl,by unfold CP;rw[hr];exact ⟨rfl,hs⟩⟩
 ·intro tm w x ck hx bJ
  obtain ⟨a,s',hr,iK,bd⟩:=id bJ
  obtain ⟨f1,f2,f3⟩:=fx a x _ _ iK
  exact kj rfl rfl _ _ _ rfl #[(0,x)] (by simp only[List.map_toArray,List.map_cons,List.map_nil,Act.eval];rw[show tm.getD 8 undef=x from hx]) (f3 w) ⟨_,rfl,Ph.bs hN jt bJ⟩
 ·intro tm w y ck a8 hy bJ
  obtain ⟨a,s',x,gy,hr,rfl,sN,iK,bd⟩:=id bJ
  obtain ⟨f1,f2,f3⟩:=fx a x _ _ iK
  have hl:=bd.bx.lt
  refine cu w rfl rfl (.tmp 6) (.tmp 9) 46 rfl (g+1) sl.t sl.sz bt mj ei pd sl.v sl.n sl.xs (a8 4 (by omega) (by kernel_rfl)) (bd.bx.own 0 sl hi) ⟨gy,0,none⟩ 1 1 x.cells.toList hy (by rw[Array.length_toList,f1];omega) (ef sN) f2 (by unfold maxLen;omega) (by have:(sl.n+1)*bt≤100001*1000:=Nat.mul_le_mul (by omega) sd;omega) (by omega) ?_
  intro v' w' h1 h2 h3
  exact ⟨v',rfl,Ph.app hr bd h2 h1 h3⟩
 ·intro tm w y ck cA dA hy bJ
  have hB:=cJ 3 y w bJ
  obtain ⟨a,s',x,w2,hr,h1,h2,h3,h4⟩:=id bJ
  obtain ⟨ya,yn,yc,rfl⟩:=aU h3
  refine eh rfl rfl _ (.tmp 12) (.tmp 10) rfl (dA 10 (by omega) (by omega)) hy (qT w (hB.row hi) (hB.frozen _)) ?_
  go_end0
  exact Ph.last hN jt hi bJ
theorem Nx {α:Type}{lo b g:Nat}{nm:ByteArray}{ss:List Slot}{N:(Nat→Prop)→World→Prop}{V W w0:World}{s:ay}{sl:Slot}{r:Except (Int×Int) (α×ay)}{N1:α→Value→(Nat→Prop)→World→Prop}{pm pr bt:Nat} (h:Ap lo b g 49 nm ss N V W s w0) (hN:aQ N) (jt:∀a x,aQ (N1 a x)) (hi:ss[3]?=some sl) (eo:Fit 25 sl bt N1) (hn:sl.n≤100000)
  (eP:∀P w,N P w→∀c ∈ ([(pm,#[.pointer (some ⟨g,0,none⟩)],158),(pr,#[.pointer (some ⟨b,0,none⟩)],74)]:List (Nat×Array Value×TypeId)),aW c.1 c.2.1 c.2.2 P w) (c8:∀w,Ap lo b g 49 nm ss N V W s w→Calls Tryz.prog 105 #[.pointer (some ⟨b,0,none⟩)] w (CR lo b N1 w r)) :
  Calls Tryz.prog 145 #[.pointer (some ⟨pm,0,none⟩),.pointer (some ⟨pr,0,none⟩)] w0 (CP lo b g 49 nm ss N V W 3 sl r N1):=by
 obtain ⟨va,vn,vc,hv⟩:=aU (h.bx.own 3 sl hi)
 obtain ⟨ei,mj,pd,sd,fx⟩:=eo
 have cJ:=Ph.base (lo:=lo) (b:=b) (g:=g) (T:=49) (nm:=nm) (V:=V) (W:=W) (s:=s) (r:=r) (N1:=N1) eP hi
 have hd:=h.up hN (zE w0.heap.size w0).drew
 go_enter Tryz.func145,Tryz.ntmps145
 refine du (z:=11) (N:=13) (c:=6) (by kernel_rfl) (fun k=>k+2) (fun k=>[.pointer (some ⟨g,0,none⟩),.pointer (some ⟨g,0,none⟩),.pointer (some ⟨g,0,none⟩),.pointer (some ⟨g,4,none⟩),sl.v,.pointer (some ⟨b,0,none⟩),undef,undef,undef,.pointer (some ⟨g,0,none⟩),.pointer (some ⟨g,4,none⟩)].getD k undef) (Ph lo b g 49 nm ss N V W s sl r N1) _ w0 rfl rfl (fun i j _ _ e=>by omega) (fun i hi=>by omega) (by kernel_rfl) (by omega) (by kernel_rfl) (by kernel_rfl) (by kernel_rfl) hd ?_ ?_ ?_ ?_ ?_
 ·intro k tm w hk hq ck cA a8 bJ
  obtain ⟨ph,x,bJ⟩:=bJ
  have hB:=cJ ph x w bJ
  match k,hk with
  |0,_=>exact aY rfl rfl _ (.tmp 0) rfl (cA 0 (by intro i hi;omega)) (cT w (hB.cell (List.mem_cons_self ..) rfl)) ⟨rfl,rfl⟩
  |1,_=>exact aY rfl rfl _ (.tmp 0) rfl (cA 0 (by intro i hi;omega)) (cT w (hB.cell (List.mem_cons_self ..) rfl)) ⟨rfl,rfl⟩
  |2,_=>exact bc rfl rfl (.tmp 3) rfl (a8 1 (by omega) (by kernel_rfl)) ⟨rfl,rfl⟩
  |3,_=>exact bV rfl rfl _ (.tmp 4) _ rfl (a8 2 (by omega) (by kernel_rfl)) (I0 w) ⟨rfl,rfl⟩
  |4,_=>exact aY rfl rfl _ (.tmp 5) rfl (a8 3 (by omega) (by kernel_rfl)) (by rw[hv];exact DL w (by rw[←hv];exact hB.row hi)) ⟨rfl,rfl⟩
  |5,_=>exact aY rfl rfl _ (.tmp 1) rfl (cA 1 (by intro i hi;omega)) (dh w (hB.cell (zF _ (List.mem_cons_self ..)) rfl)) ⟨rfl,rfl⟩
  |6,_=>omega
  |7,_=>omega
  |8,_=>omega
  |9,_=>exact bc rfl rfl (.tmp 2) rfl (a8 0 (by omega) (by kernel_rfl)) ⟨rfl,rfl⟩
  |10,_=>exact bV rfl rfl _ (.tmp 11) _ rfl (a8 9 (by omega) (by kernel_rfl)) (I0 w) ⟨rfl,rfl⟩
 ·intro tm w ck cA a8 bJ
  have bd:Ap lo b g 49 nm ss N V W s w:=bJ
  refine cF rfl rfl 105 (Ep w) _ _ rfl #[.pointer (some ⟨b,0,none⟩)] ?_ (c8 w bd) ?_
  ·simp only[List.map_toArray,List.map_cons,List.map_nil,Act.eval]
   rw[show tm.getD 7 undef=_ from a8 5 (by omega) (by kernel_rfl)]
   rfl
  ·intro e w' kz
   rcases Ph.call hN jt bJ kz with ⟨x,rfl,h1⟩|⟨y,hr,rfl,hs⟩
   ·exact .inl ⟨x,rfl,x,rfl,h1⟩
   ·exact .inr ⟨_,rfl,rfl,by unfold CP;rw[hr];exact ⟨rfl,hs⟩⟩
 ·intro tm w x ck hx bJ
  obtain ⟨a,s',hr,iK,bd⟩:=id bJ
  obtain ⟨f1,f2,f3⟩:=fx a x _ _ iK
  exact kj rfl rfl _ _ _ rfl #[(0,x)] (by simp only[List.map_toArray,List.map_cons,List.map_nil,Act.eval];rw[show tm.getD 8 undef=x from hx]) (f3 w) ⟨_,rfl,Ph.bs hN jt bJ⟩
 ·intro tm w y ck a8 hy bJ
  obtain ⟨a,s',x,gy,hr,rfl,sN,iK,bd⟩:=id bJ
  obtain ⟨f1,f2,f3⟩:=fx a x _ _ iK
  have hl:=bd.bx.lt
  refine cu w rfl rfl (.tmp 6) (.tmp 9) 25 rfl (g+1) sl.t sl.sz bt mj ei pd sl.v sl.n sl.xs (a8 4 (by omega) (by kernel_rfl)) (bd.bx.own 3 sl hi) ⟨gy,0,none⟩ 1 1 x.cells.toList hy (by rw[Array.length_toList,f1];omega) (ef sN) f2 (by unfold maxLen;omega) (by have:(sl.n+1)*bt≤100001*1000:=Nat.mul_le_mul (by omega) sd;omega) (by omega) ?_
  intro v' w' h1 h2 h3
  exact ⟨v',rfl,Ph.app hr bd h2 h1 h3⟩
 ·intro tm w y ck cA dA hy bJ
  have hB:=cJ 3 y w bJ
  obtain ⟨a,s',x,w2,hr,h1,h2,h3,h4⟩:=id bJ
  obtain ⟨ya,yn,yc,rfl⟩:=aU h3
  refine eh rfl rfl _ (.tmp 12) (.tmp 10) rfl (dA 10 (by omega) (by omega)) hy (Di w (hB.row hi) (hB.frozen _)) ?_
  go_end0
  exact Ph.last hN jt hi bJ
theorem L7 {α:Type}{lo b g:Nat}{nm:ByteArray}{ss:List Slot}{N:(Nat→Prop)→World→Prop}{V W w0:World}{s:ay}{sl:Slot}{r:Except (Int×Int) (α×ay)}{N1:α→Value→(Nat→Prop)→World→Prop}{pm pr bt:Nat} (h:Ap lo b g 27 nm ss N V W s w0) (hN:aQ N) (jt:∀a x,aQ (N1 a x)) (hi:ss[0]?=some sl) (eo:Fit 22 sl bt N1) (hn:sl.n≤100000)
  (eP:∀P w,N P w→∀c ∈ ([(pm,#[.pointer (some ⟨g,0,none⟩)],108),(pr,#[.pointer (some ⟨b,0,none⟩)],74)]:List (Nat×Array Value×TypeId)),aW c.1 c.2.1 c.2.2 P w) (c8:∀w,Ap lo b g 27 nm ss N V W s w→Calls Tryz.prog 101 #[.pointer (some ⟨b,0,none⟩)] w (CR lo b N1 w r)) :
  Calls Tryz.prog 100 #[.pointer (some ⟨pm,0,none⟩),.pointer (some ⟨pr,0,none⟩)] w0 (CP lo b g 27 nm ss N V W 0 sl r N1):=by
 obtain ⟨va,vn,vc,hv⟩:=aU (h.bx.own 0 sl hi)
 obtain ⟨ei,mj,pd,sd,fx⟩:=eo
 have cJ:=Ph.base (lo:=lo) (b:=b) (g:=g) (T:=27) (nm:=nm) (V:=V) (W:=W) (s:=s) (r:=r) (N1:=N1) eP hi
 have hd:=h.up hN (zE w0.heap.size w0).drew
 go_enter Tryz.func100,Tryz.ntmps100
 refine du (z:=11) (N:=13) (c:=6) (by kernel_rfl) (fun k=>k+2) (fun k=>[.pointer (some ⟨g,0,none⟩),.pointer (some ⟨g,0,none⟩),.pointer (some ⟨g,0,none⟩),.pointer (some ⟨g,1,none⟩),sl.v,.pointer (some ⟨b,0,none⟩),undef,undef,undef,.pointer (some ⟨g,0,none⟩),.pointer (some ⟨g,1,none⟩)].getD k undef) (Ph lo b g 27 nm ss N V W s sl r N1) _ w0 rfl rfl (fun i j _ _ e=>by omega) (fun i hi=>by omega) (by kernel_rfl) (by omega) (by kernel_rfl) (by kernel_rfl) (by kernel_rfl) hd ?_ ?_ ?_ ?_ ?_
 ·intro k tm w hk hq ck cA a8 bJ
  obtain ⟨ph,x,bJ⟩:=bJ
  have hB:=cJ ph x w bJ
  match k,hk with
  |0,_=>exact aY rfl rfl _ (.tmp 0) rfl (cA 0 (by intro i hi;omega)) (hZ w (hB.cell (List.mem_cons_self ..) rfl)) ⟨rfl,rfl⟩
  |1,_=>exact aY rfl rfl _ (.tmp 0) rfl (cA 0 (by intro i hi;omega)) (hZ w (hB.cell (List.mem_cons_self ..) rfl)) ⟨rfl,rfl⟩
  |2,_=>exact bc rfl rfl (.tmp 3) rfl (a8 1 (by omega) (by kernel_rfl)) ⟨rfl,rfl⟩
  |3,_=>exact bV rfl rfl _ (.tmp 4) _ rfl (a8 2 (by omega) (by kernel_rfl)) (Ea w) ⟨rfl,rfl⟩
  |4,_=>exact aY rfl rfl _ (.tmp 5) rfl (a8 3 (by omega) (by kernel_rfl)) (by rw[hv];exact xq w (by rw[←hv];exact hB.row hi)) ⟨rfl,rfl⟩
  |5,_=>exact aY rfl rfl _ (.tmp 1) rfl (cA 1 (by intro i hi;omega)) (dh w (hB.cell (zF _ (List.mem_cons_self ..)) rfl)) ⟨rfl,rfl⟩
  |6,_=>omega
  |7,_=>omega
  |8,_=>omega
  |9,_=>exact bc rfl rfl (.tmp 2) rfl (a8 0 (by omega) (by kernel_rfl)) ⟨rfl,rfl⟩
  |10,_=>exact bV rfl rfl _ (.tmp 11) _ rfl (a8 9 (by omega) (by kernel_rfl)) (Ea w) ⟨rfl,rfl⟩
 ·intro tm w ck cA a8 bJ
  have bd:Ap lo b g 27 nm ss N V W s w:=bJ
  refine cF rfl rfl 101 (Co w) _ _ rfl #[.pointer (some ⟨b,0,none⟩)] ?_ (c8 w bd) ?_
  ·simp only[List.map_toArray,List.map_cons,List.map_nil,Act.eval]
   rw[show tm.getD 7 undef=_ from a8 5 (by omega) (by kernel_rfl)]
   rfl
  ·intro e w' kz
   rcases Ph.call hN jt bJ kz with ⟨x,rfl,h1⟩|⟨y,hr,rfl,hs⟩
   ·exact .inl ⟨x,rfl,x,rfl,h1⟩
   ·exact .inr ⟨_,rfl,rfl,by unfold CP;rw[hr];exact ⟨rfl,hs⟩⟩
 ·intro tm w x ck hx bJ
  obtain ⟨a,s',hr,iK,bd⟩:=id bJ
  obtain ⟨f1,f2,f3⟩:=fx a x _ _ iK
  exact kj rfl rfl _ _ _ rfl #[(0,x)] (by simp only[List.map_toArray,List.map_cons,List.map_nil,Act.eval];rw[show tm.getD 8 undef=x from hx]) (f3 w) ⟨_,rfl,Ph.bs hN jt bJ⟩
 ·intro tm w y ck a8 hy bJ
  obtain ⟨a,s',x,gy,hr,rfl,sN,iK,bd⟩:=id bJ
  obtain ⟨f1,f2,f3⟩:=fx a x _ _ iK
  have hl:=bd.bx.lt
  refine cu w rfl rfl (.tmp 6) (.tmp 9) 22 rfl (g+1) sl.t sl.sz bt mj ei pd sl.v sl.n sl.xs (a8 4 (by omega) (by kernel_rfl)) (bd.bx.own 0 sl hi) ⟨gy,0,none⟩ 1 1 x.cells.toList hy (by rw[Array.length_toList,f1];omega) (ef sN) f2 (by unfold maxLen;omega) (by have:(sl.n+1)*bt≤100001*1000:=Nat.mul_le_mul (by omega) sd;omega) (by omega) ?_
  intro v' w' h1 h2 h3
  exact ⟨v',rfl,Ph.app hr bd h2 h1 h3⟩
 ·intro tm w y ck cA dA hy bJ
  have hB:=cJ 3 y w bJ
  obtain ⟨a,s',x,w2,hr,h1,h2,h3,h4⟩:=id bJ
  obtain ⟨ya,yn,yc,rfl⟩:=aU h3
  refine eh rfl rfl _ (.tmp 12) (.tmp 10) rfl (dA 10 (by omega) (by omega)) hy (Bo w (hB.row hi) (hB.frozen _)) ?_
  go_end0
  exact Ph.last hN jt hi bJ
theorem L6 {α:Type}{lo b g:Nat}{nm:ByteArray}{ss:List Slot}{N:(Nat→Prop)→World→Prop}{V W w0:World}{s:ay}{sl:Slot}{r:Except (Int×Int) (α×ay)}{N1:α→Value→(Nat→Prop)→World→Prop}{pm pr bt:Nat} (h:Ap lo b g 27 nm ss N V W s w0) (hN:aQ N) (jt:∀a x,aQ (N1 a x)) (hi:ss[2]?=some sl) (eo:Fit 25 sl bt N1) (hn:sl.n≤100000)
  (eP:∀P w,N P w→∀c ∈ ([(pm,#[.pointer (some ⟨g,0,none⟩)],108),(pr,#[.pointer (some ⟨b,0,none⟩)],74)]:List (Nat×Array Value×TypeId)),aW c.1 c.2.1 c.2.2 P w) (c8:∀w,Ap lo b g 27 nm ss N V W s w→Calls Tryz.prog 105 #[.pointer (some ⟨b,0,none⟩)] w (CR lo b N1 w r)) :
  Calls Tryz.prog 104 #[.pointer (some ⟨pm,0,none⟩),.pointer (some ⟨pr,0,none⟩)] w0 (CP lo b g 27 nm ss N V W 2 sl r N1):=by
 obtain ⟨va,vn,vc,hv⟩:=aU (h.bx.own 2 sl hi)
 obtain ⟨ei,mj,pd,sd,fx⟩:=eo
 have cJ:=Ph.base (lo:=lo) (b:=b) (g:=g) (T:=27) (nm:=nm) (V:=V) (W:=W) (s:=s) (r:=r) (N1:=N1) eP hi
 have hd:=h.up hN (zE w0.heap.size w0).drew
 go_enter Tryz.func104,Tryz.ntmps104
 refine du (z:=11) (N:=13) (c:=6) (by kernel_rfl) (fun k=>k+2) (fun k=>[.pointer (some ⟨g,0,none⟩),.pointer (some ⟨g,0,none⟩),.pointer (some ⟨g,0,none⟩),.pointer (some ⟨g,3,none⟩),sl.v,.pointer (some ⟨b,0,none⟩),undef,undef,undef,.pointer (some ⟨g,0,none⟩),.pointer (some ⟨g,3,none⟩)].getD k undef) (Ph lo b g 27 nm ss N V W s sl r N1) _ w0 rfl rfl (fun i j _ _ e=>by omega) (fun i hi=>by omega) (by kernel_rfl) (by omega) (by kernel_rfl) (by kernel_rfl) (by kernel_rfl) hd ?_ ?_ ?_ ?_ ?_
 ·intro k tm w hk hq ck cA a8 bJ
  obtain ⟨ph,x,bJ⟩:=bJ
  have hB:=cJ ph x w bJ
  match k,hk with
  |0,_=>exact aY rfl rfl _ (.tmp 0) rfl (cA 0 (by intro i hi;omega)) (hZ w (hB.cell (List.mem_cons_self ..) rfl)) ⟨rfl,rfl⟩
  |1,_=>exact aY rfl rfl _ (.tmp 0) rfl (cA 0 (by intro i hi;omega)) (hZ w (hB.cell (List.mem_cons_self ..) rfl)) ⟨rfl,rfl⟩
  |2,_=>exact bc rfl rfl (.tmp 3) rfl (a8 1 (by omega) (by kernel_rfl)) ⟨rfl,rfl⟩
  |3,_=>exact bV rfl rfl _ (.tmp 4) _ rfl (a8 2 (by omega) (by kernel_rfl)) (D' w) ⟨rfl,rfl⟩
  |4,_=>exact aY rfl rfl _ (.tmp 5) rfl (a8 3 (by omega) (by kernel_rfl)) (by rw[hv];exact DL w (by rw[←hv];exact hB.row hi)) ⟨rfl,rfl⟩
  |5,_=>exact aY rfl rfl _ (.tmp 1) rfl (cA 1 (by intro i hi;omega)) (dh w (hB.cell (zF _ (List.mem_cons_self ..)) rfl)) ⟨rfl,rfl⟩
  |6,_=>omega
  |7,_=>omega
  |8,_=>omega
  |9,_=>exact bc rfl rfl (.tmp 2) rfl (a8 0 (by omega) (by kernel_rfl)) ⟨rfl,rfl⟩
  |10,_=>exact bV rfl rfl _ (.tmp 11) _ rfl (a8 9 (by omega) (by kernel_rfl)) (D' w) ⟨rfl,rfl⟩
 ·intro tm w ck cA a8 bJ
  have bd:Ap lo b g 27 nm ss N V W s w:=bJ
  refine cF rfl rfl 105 (Ep w) _ _ rfl #[.pointer (some ⟨b,0,none⟩)] ?_ (c8 w bd) ?_
  ·simp only[List.map_toArray,List.map_cons,List.map_nil,Act.eval]
   rw[show tm.getD 7 undef=_ from a8 5 (by omega) (by kernel_rfl)]
   rfl
  ·intro e w' kz
   rcases Ph.call hN jt bJ kz with ⟨x,rfl,h1⟩|⟨y,hr,rfl,hs⟩
   ·exact .inl ⟨x,rfl,x,rfl,h1⟩
   ·exact .inr ⟨_,rfl,rfl,by unfold CP;rw[hr];exact ⟨rfl,hs⟩⟩
 ·intro tm w x ck hx bJ
  obtain ⟨a,s',hr,iK,bd⟩:=id bJ
  obtain ⟨f1,f2,f3⟩:=fx a x _ _ iK
  exact kj rfl rfl _ _ _ rfl #[(0,x)] (by simp only[List.map_toArray,List.map_cons,List.map_nil,Act.eval];rw[show tm.getD 8 undef=x from hx]) (f3 w) ⟨_,rfl,Ph.bs hN jt bJ⟩
 ·intro tm w y ck a8 hy bJ
  obtain ⟨a,s',x,gy,hr,rfl,sN,iK,bd⟩:=id bJ
  obtain ⟨f1,f2,f3⟩:=fx a x _ _ iK
  have hl:=bd.bx.lt
  refine cu w rfl rfl (.tmp 6) (.tmp 9) 25 rfl (g+1) sl.t sl.sz bt mj ei pd sl.v sl.n sl.xs (a8 4 (by omega) (by kernel_rfl)) (bd.bx.own 2 sl hi) ⟨gy,0,none⟩ 1 1 x.cells.toList hy (by rw[Array.length_toList,f1];omega) (ef sN) f2 (by unfold maxLen;omega) (by have:(sl.n+1)*bt≤100001*1000:=Nat.mul_le_mul (by omega) sd;omega) (by omega) ?_
  intro v' w' h1 h2 h3
  exact ⟨v',rfl,Ph.app hr bd h2 h1 h3⟩
 ·intro tm w y ck cA dA hy bJ
  have hB:=cJ 3 y w bJ
  obtain ⟨a,s',x,w2,hr,h1,h2,h3,h4⟩:=id bJ
  obtain ⟨ya,yn,yc,rfl⟩:=aU h3
  refine eh rfl rfl _ (.tmp 12) (.tmp 10) rfl (dA 10 (by omega) (by omega)) hy (Di w (hB.row hi) (hB.frozen _)) ?_
  go_end0
  exact Ph.last hN jt hi bJ
theorem M' {α:Type}{lo b g:Nat}{nm:ByteArray}{ss:List Slot}{N:(Nat→Prop)→World→Prop}{V W w0:World}{s:ay}{sl:Slot}{r:Except (Int×Int) (α×ay)}{N1:α→Value→(Nat→Prop)→World→Prop}{pr bt:Nat} (h:Ap lo b g 49 nm ss N V W s w0) (hN:aQ N) (jt:∀a x,aQ (N1 a x)) (hi:ss[0]?=some sl) (eo:Fit 46 sl bt N1) (hn:sl.n≤100000)
  (eP:∀P w,N P w→∀c ∈ ([(pr,#[.pointer (some ⟨b,0,none⟩)],74)]:List (Nat×Array Value×TypeId)),aW c.1 c.2.1 c.2.2 P w) (c8:∀w,Ap lo b g 49 nm ss N V W s w→Calls Tryz.prog 127 #[.pointer (some ⟨b,0,none⟩),.int .i64 0] w (CR lo b N1 w r)) :
  Calls Tryz.prog 126 #[.pointer (some ⟨g,0,none⟩),.pointer (some ⟨pr,0,none⟩)] w0 (CP lo b g 49 nm ss N V W 0 sl r N1):=by
 obtain ⟨va,vn,vc,hv⟩:=aU (h.bx.own 0 sl hi)
 obtain ⟨ei,mj,pd,sd,fx⟩:=eo
 have cJ:=Ph.base (lo:=lo) (b:=b) (g:=g) (T:=49) (nm:=nm) (V:=V) (W:=W) (s:=s) (r:=r) (N1:=N1) eP hi
 have hd:=h.up hN (zE w0.heap.size w0).drew
 go_enter Tryz.func126,Tryz.ntmps126
 refine du (z:=7) (N:=9) (c:=3) (by kernel_rfl) (fun k=>k+2) (fun k=>[.pointer (some ⟨g,1,none⟩),sl.v,.pointer (some ⟨b,0,none⟩),undef,undef,undef,.pointer (some ⟨g,1,none⟩)].getD k undef) (Ph lo b g 49 nm ss N V W s sl r N1) _ w0 rfl rfl (fun i j _ _ e=>by omega) (fun i hi=>by omega) (by kernel_rfl) (by omega) (by kernel_rfl) (by kernel_rfl) (by kernel_rfl) hd ?_ ?_ ?_ ?_ ?_
 ·intro k tm w hk hq ck cA a8 bJ
  obtain ⟨ph,x,bJ⟩:=bJ
  have hB:=cJ ph x w bJ
  match k,hk with
  |0,_=>exact bV rfl rfl _ (.tmp 0) _ rfl (cA 0 (by intro i hi;omega)) (jB w) ⟨rfl,rfl⟩
  |1,_=>exact aY rfl rfl _ (.tmp 2) rfl (a8 0 (by omega) (by kernel_rfl)) (by rw[hv];exact rl w (by rw[←hv];exact hB.row hi)) ⟨rfl,rfl⟩
  |2,_=>exact aY rfl rfl _ (.tmp 1) rfl (cA 1 (by intro i hi;omega)) (dh w (hB.cell (List.mem_cons_self ..) rfl)) ⟨rfl,rfl⟩
  |3,_=>omega
  |4,_=>omega
  |5,_=>omega
  |6,_=>exact bV rfl rfl _ (.tmp 0) _ rfl (cA 0 (by intro i hi;omega)) (jB w) ⟨rfl,rfl⟩
 ·intro tm w ck cA a8 bJ
  have bd:Ap lo b g 49 nm ss N V W s w:=bJ
  refine cF rfl rfl 127 (A9 w) _ _ rfl #[.pointer (some ⟨b,0,none⟩),.int .i64 0] ?_ (c8 w bd) ?_
  ·simp only[List.map_toArray,List.map_cons,List.map_nil,Act.eval]
   rw[show tm.getD 4 undef=_ from a8 2 (by omega) (by kernel_rfl)]
   rfl
  ·intro e w' kz
   rcases Ph.call hN jt bJ kz with ⟨x,rfl,h1⟩|⟨y,hr,rfl,hs⟩
   ·exact .inl ⟨x,rfl,x,rfl,h1⟩
   ·exact .inr ⟨_,rfl,rfl,by unfold CP;rw[hr];exact ⟨rfl,hs⟩⟩
 ·intro tm w x ck hx bJ
  obtain ⟨a,s',hr,iK,bd⟩:=id bJ
  obtain ⟨f1,f2,f3⟩:=fx a x _ _ iK
  exact kj rfl rfl _ _ _ rfl #[(0,x)] (by simp only[List.map_toArray,List.map_cons,List.map_nil,Act.eval];rw[show tm.getD 5 undef=x from hx]) (f3 w) ⟨_,rfl,Ph.bs hN jt bJ⟩
 ·intro tm w y ck a8 hy bJ
  obtain ⟨a,s',x,gy,hr,rfl,sN,iK,bd⟩:=id bJ
  obtain ⟨f1,f2,f3⟩:=fx a x _ _ iK
  have hl:=bd.bx.lt
  refine cu w rfl rfl (.tmp 3) (.tmp 6) 46 rfl (g+1) sl.t sl.sz bt mj ei pd sl.v sl.n sl.xs (a8 1 (by omega) (by kernel_rfl)) (bd.bx.own 0 sl hi) ⟨gy,0,none⟩ 1 1 x.cells.toList hy (by rw[Array.length_toList,f1];omega) (ef sN) f2 (by unfold maxLen;omega) (by have:(sl.n+1)*bt≤100001*1000:=Nat.mul_le_mul (by omega) sd;omega) (by omega) ?_
  intro v' w' h1 h2 h3
  exact ⟨v',rfl,Ph.app hr bd h2 h1 h3⟩
 ·intro tm w y ck cA dA hy bJ
  have hB:=cJ 3 y w bJ
  obtain ⟨a,s',x,w2,hr,h1,h2,h3,h4⟩:=id bJ
  obtain ⟨ya,yn,yc,rfl⟩:=aU h3
  refine eh rfl rfl _ (.tmp 8) (.tmp 7) rfl (dA 6 (by omega) (by omega)) hy (qT w (hB.row hi) (hB.frozen _)) ?_
  go_end0
  exact Ph.last hN jt hi bJ
theorem KY {α:Type}{lo b g:Nat}{nm:ByteArray}{ss:List Slot}{N:(Nat→Prop)→World→Prop}{V W w0:World}{s:ay}{sl:Slot}{r:Except (Int×Int) (α×ay)}{N1:α→Value→(Nat→Prop)→World→Prop}{pr bt:Nat} (h:Ap lo b g 71 nm ss N V W s w0) (hN:aQ N) (jt:∀a x,aQ (N1 a x)) (hi:ss[0]?=some sl) (eo:Fit 69 sl bt N1) (hn:sl.n≤100000)
  (eP:∀P w,N P w→∀c ∈ ([(pr,#[.pointer (some ⟨b,0,none⟩)],74)]:List (Nat×Array Value×TypeId)),aW c.1 c.2.1 c.2.2 P w) (c8:∀w,Ap lo b g 71 nm ss N V W s w→Calls Tryz.prog 130 #[.pointer (some ⟨b,0,none⟩)] w (CR lo b N1 w r)) :
  Calls Tryz.prog 129 #[.pointer (some ⟨g,0,none⟩),.pointer (some ⟨pr,0,none⟩)] w0 (CP lo b g 71 nm ss N V W 0 sl r N1):=by
 obtain ⟨va,vn,vc,hv⟩:=aU (h.bx.own 0 sl hi)
 obtain ⟨ei,mj,pd,sd,fx⟩:=eo
 have cJ:=Ph.base (lo:=lo) (b:=b) (g:=g) (T:=71) (nm:=nm) (V:=V) (W:=W) (s:=s) (r:=r) (N1:=N1) eP hi
 have hd:=h.up hN (zE w0.heap.size w0).drew
 go_enter Tryz.func129,Tryz.ntmps129
 refine du (z:=7) (N:=9) (c:=3) (by kernel_rfl) (fun k=>k+2) (fun k=>[.pointer (some ⟨g,1,none⟩),sl.v,.pointer (some ⟨b,0,none⟩),undef,undef,undef,.pointer (some ⟨g,1,none⟩)].getD k undef) (Ph lo b g 71 nm ss N V W s sl r N1) _ w0 rfl rfl (fun i j _ _ e=>by omega) (fun i hi=>by omega) (by kernel_rfl) (by omega) (by kernel_rfl) (by kernel_rfl) (by kernel_rfl) hd ?_ ?_ ?_ ?_ ?_
 ·intro k tm w hk hq ck cA a8 bJ
  obtain ⟨ph,x,bJ⟩:=bJ
  have hB:=cJ ph x w bJ
  match k,hk with
  |0,_=>exact bV rfl rfl _ (.tmp 0) _ rfl (cA 0 (by intro i hi;omega)) (AZ w) ⟨rfl,rfl⟩
  |1,_=>exact aY rfl rfl _ (.tmp 2) rfl (a8 0 (by omega) (by kernel_rfl)) (by rw[hv];exact RJ w (by rw[←hv];exact hB.row hi)) ⟨rfl,rfl⟩
  |2,_=>exact aY rfl rfl _ (.tmp 1) rfl (cA 1 (by intro i hi;omega)) (dh w (hB.cell (List.mem_cons_self ..) rfl)) ⟨rfl,rfl⟩
  |3,_=>omega
  |4,_=>omega
  |5,_=>omega
  |6,_=>exact bV rfl rfl _ (.tmp 0) _ rfl (cA 0 (by intro i hi;omega)) (AZ w) ⟨rfl,rfl⟩
 ·intro tm w ck cA a8 bJ
  have bd:Ap lo b g 71 nm ss N V W s w:=bJ
  refine cF rfl rfl 130 (Lb w) _ _ rfl #[.pointer (some ⟨b,0,none⟩)] ?_ (c8 w bd) ?_
  ·simp only[List.map_toArray,List.map_cons,List.map_nil,Act.eval]
   rw[show tm.getD 4 undef=_ from a8 2 (by omega) (by kernel_rfl)]
   rfl
  ·intro e w' kz
   rcases Ph.call hN jt bJ kz with ⟨x,rfl,h1⟩|⟨y,hr,rfl,hs⟩
   ·exact .inl ⟨x,rfl,x,rfl,h1⟩
   ·exact .inr ⟨_,rfl,rfl,by unfold CP;rw[hr];exact ⟨rfl,hs⟩⟩
 ·intro tm w x ck hx bJ
  obtain ⟨a,s',hr,iK,bd⟩:=id bJ
  obtain ⟨f1,f2,f3⟩:=fx a x _ _ iK
  exact kj rfl rfl _ _ _ rfl #[(0,x)] (by simp only[List.map_toArray,List.map_cons,List.map_nil,Act.eval];rw[show tm.getD 5 undef=x from hx]) (f3 w) ⟨_,rfl,Ph.bs hN jt bJ⟩
 ·intro tm w y ck a8 hy bJ
  obtain ⟨a,s',x,gy,hr,rfl,sN,iK,bd⟩:=id bJ
  obtain ⟨f1,f2,f3⟩:=fx a x _ _ iK
  have hl:=bd.bx.lt
  refine cu w rfl rfl (.tmp 3) (.tmp 6) 69 rfl (g+1) sl.t sl.sz bt mj ei pd sl.v sl.n sl.xs (a8 1 (by omega) (by kernel_rfl)) (bd.bx.own 0 sl hi) ⟨gy,0,none⟩ 1 1 x.cells.toList hy (by rw[Array.length_toList,f1];omega) (ef sN) f2 (by unfold maxLen;omega) (by have:(sl.n+1)*bt≤100001*1000:=Nat.mul_le_mul (by omega) sd;omega) (by omega) ?_
  intro v' w' h1 h2 h3
  exact ⟨v',rfl,Ph.app hr bd h2 h1 h3⟩
 ·intro tm w y ck cA dA hy bJ
  have hB:=cJ 3 y w bJ
  obtain ⟨a,s',x,w2,hr,h1,h2,h3,h4⟩:=id bJ
  obtain ⟨ya,yn,yc,rfl⟩:=aU h3
  refine eh rfl rfl _ (.tmp 8) (.tmp 7) rfl (dA 6 (by omega) (by omega)) hy (QW w (hB.row hi) (hB.frozen _)) ?_
  go_end0
  exact Ph.last hN jt hi bJ
theorem bZ {w:World}{bs e z n:Nat}{v:Value}{xs:List Value} (h:w.ownsRow bs e z v n xs):∃a c,v=.slice a n c:=by
 rcases h.2 with ⟨rfl,h0⟩|⟨g,c,_,rfl,_⟩
 ·exact ⟨_,_,by rw[h0]⟩
 ·exact ⟨_,_,rfl⟩
theorem Kj (w:World) {p:Nat}{l h:Int}{m:Bool} (h0:w.cell? ⟨p,0,none⟩=some (.int .i64 l)) (h1:w.cell? ⟨p,1,none⟩=some (.int .i64 h)) (h2:w.cell? ⟨p,2,none⟩=some (.bool m)):(Instr.loadAt 175 (.pointer (some ⟨p,0,none⟩))).run Tryz.prog w=.ok (.agg #[.int .i64 l,.int .i64 h,.bool m]) w:=by
 go_simp
theorem FJ {α:Type}{lo b g:Nat}{nm:ByteArray}{ss:List Slot}{N:(Nat→Prop)→World→Prop}{V W w0:World}{s:ay}{sl:Slot}{r:Except (Int×Int) (α×ay)}{N1:α→Value→(Nat→Prop)→World→Prop}{pm pr bt:Nat}{so:Slot} (ho:ss[1]?=some so) (h:Ap lo b g 49 nm ss N V W s w0) (hN:aQ N) (jt:∀a x,aQ (N1 a x)) (hi:ss[0]?=some sl) (eo:Fit 46 sl bt N1) (hn:sl.n≤100000)
  (eP:∀P w,N P w→∀c ∈ ([(pm,#[.pointer (some ⟨g,0,none⟩)],158),(pr,#[.pointer (some ⟨b,0,none⟩)],74)]:List (Nat×Array Value×TypeId)),aW c.1 c.2.1 c.2.2 P w) (c8:∀w,Ap lo b g 49 nm ss N V W s w→Calls Tryz.prog 127 #[.pointer (some ⟨b,0,none⟩),.int .i64 (so.n:Int)] w (CR lo b N1 w r)) :
  Calls Tryz.prog 170 #[.pointer (some ⟨pm,0,none⟩),.pointer (some ⟨pr,0,none⟩)] w0 (CP lo b g 49 nm ss N V W 0 sl r N1):=by
 obtain ⟨va,vn,vc,hv⟩:=aU (h.bx.own 0 sl hi)
 obtain ⟨ei,mj,pd,sd,fx⟩:=eo
 have cJ:=Ph.base (lo:=lo) (b:=b) (g:=g) (T:=49) (nm:=nm) (V:=V) (W:=W) (s:=s) (r:=r) (N1:=N1) eP hi
 have hd:=h.up hN (zE w0.heap.size w0).drew
 go_enter Tryz.func170,Tryz.ntmps170
 obtain ⟨oa,oc,hvo⟩:=bZ (h.bx.own 1 so ho)
 refine du (z:=16) (N:=18) (c:=11) (by kernel_rfl) (fun k=>k+2) (fun k=>[.pointer (some ⟨g,0,none⟩),.pointer (some ⟨g,0,none⟩),.pointer (some ⟨g,0,none⟩),.pointer (some ⟨g,1,none⟩),sl.v,.pointer (some ⟨b,0,none⟩),.pointer (some ⟨g,0,none⟩),.pointer (some ⟨g,0,none⟩),.pointer (some ⟨g,2,none⟩),so.v,.int .i64 (so.n:Int),undef,undef,undef,.pointer (some ⟨g,0,none⟩),.pointer (some ⟨g,1,none⟩)].getD k undef) (Ph lo b g 49 nm ss N V W s sl r N1) _ w0 rfl rfl (fun i j _ _ e=>by omega) (fun i hi=>by omega) (by kernel_rfl) (by omega) (by kernel_rfl) (by kernel_rfl) (by kernel_rfl) hd ?_ ?_ ?_ ?_ ?_
 ·intro k tm w hk hq ck cA a8 bJ
  obtain ⟨ph,x,bJ⟩:=bJ
  have hB:=cJ ph x w bJ
  match k,hk with
  |0,_=>exact aY rfl rfl _ (.tmp 0) rfl (cA 0 (by intro i hi;omega)) (cT w (hB.cell (List.mem_cons_self ..) rfl)) ⟨rfl,rfl⟩
  |1,_=>exact aY rfl rfl _ (.tmp 0) rfl (cA 0 (by intro i hi;omega)) (cT w (hB.cell (List.mem_cons_self ..) rfl)) ⟨rfl,rfl⟩
  |2,_=>exact bc rfl rfl (.tmp 3) rfl (a8 1 (by omega) (by kernel_rfl)) ⟨rfl,rfl⟩
  |3,_=>exact bV rfl rfl _ (.tmp 4) _ rfl (a8 2 (by omega) (by kernel_rfl)) (jB w) ⟨rfl,rfl⟩
  |4,_=>exact aY rfl rfl _ (.tmp 5) rfl (a8 3 (by omega) (by kernel_rfl)) (by rw[hv];exact rl w (by rw[←hv];exact hB.row hi)) ⟨rfl,rfl⟩
  |5,_=>exact aY rfl rfl _ (.tmp 1) rfl (cA 1 (by intro i hi;omega)) (dh w (hB.cell (zF _ (List.mem_cons_self ..)) rfl)) ⟨rfl,rfl⟩
  |6,_=>exact aY rfl rfl _ (.tmp 0) rfl (cA 0 (by intro i hi;omega)) (cT w (hB.cell (List.mem_cons_self ..) rfl)) ⟨rfl,rfl⟩
  |7,_=>exact bc rfl rfl (.tmp 8) rfl (a8 6 (by omega) (by kernel_rfl)) ⟨rfl,rfl⟩
  |8,_=>exact bV rfl rfl _ (.tmp 9) _ rfl (a8 7 (by omega) (by kernel_rfl)) (B9 w) ⟨rfl,rfl⟩
  |9,_=>exact aY rfl rfl _ (.tmp 10) rfl (a8 8 (by omega) (by kernel_rfl)) (by rw[hvo];exact xq w (by rw[←hvo];exact hB.row ho)) ⟨rfl,rfl⟩
  |10,_=>exact FI rfl rfl (.tmp 11) 22 9 rfl Tryz.underlying22 ((a8 9 (by omega) (by kernel_rfl)).trans hvo) ⟨rfl,rfl⟩
  |11,_=>omega
  |12,_=>omega
  |13,_=>omega
  |14,_=>exact bc rfl rfl (.tmp 2) rfl (a8 0 (by omega) (by kernel_rfl)) ⟨rfl,rfl⟩
  |15,_=>exact bV rfl rfl _ (.tmp 16) _ rfl (a8 14 (by omega) (by kernel_rfl)) (jB w) ⟨rfl,rfl⟩
  |k+16,h=>omega
 ·intro tm w ck cA a8 bJ
  have bd:Ap lo b g 49 nm ss N V W s w:=bJ
  refine cF rfl rfl 127 (A9 w) _ _ rfl #[.pointer (some ⟨b,0,none⟩),.int .i64 (so.n:Int)] ?_ (c8 w bd) ?_
  ·simp only[List.map_toArray,List.map_cons,List.map_nil,Act.eval]
   rw[show tm.getD 7 undef=_ from a8 5 (by omega) (by kernel_rfl),show tm.getD 12 undef=_ from a8 10 (by omega) (by kernel_rfl)]
   rfl
  ·intro e w' kz
   rcases Ph.call hN jt bJ kz with ⟨x,rfl,h1⟩|⟨y,hr,rfl,hs⟩
   ·exact .inl ⟨x,rfl,x,rfl,h1⟩
   ·exact .inr ⟨_,rfl,rfl,by unfold CP;rw[hr];exact ⟨rfl,hs⟩⟩
 ·intro tm w x ck hx bJ
  obtain ⟨a,s',hr,iK,bd⟩:=id bJ
  obtain ⟨f1,f2,f3⟩:=fx a x _ _ iK
  exact kj rfl rfl _ _ _ rfl #[(0,x)] (by simp only[List.map_toArray,List.map_cons,List.map_nil,Act.eval];rw[show tm.getD 13 undef=x from hx]) (f3 w) ⟨_,rfl,Ph.bs hN jt bJ⟩
 ·intro tm w y ck a8 hy bJ
  obtain ⟨a,s',x,gy,hr,rfl,sN,iK,bd⟩:=id bJ
  obtain ⟨f1,f2,f3⟩:=fx a x _ _ iK
  have hl:=bd.bx.lt
  refine cu w rfl rfl (.tmp 6) (.tmp 14) 46 rfl (g+1) sl.t sl.sz bt mj ei pd sl.v sl.n sl.xs (a8 4 (by omega) (by kernel_rfl)) (bd.bx.own 0 sl hi) ⟨gy,0,none⟩ 1 1 x.cells.toList hy (by rw[Array.length_toList,f1];omega) (ef sN) f2 (by unfold maxLen;omega) (by have:(sl.n+1)*bt≤100001*1000:=Nat.mul_le_mul (by omega) sd;omega) (by omega) ?_
  intro v' w' h1 h2 h3
  exact ⟨v',rfl,Ph.app hr bd h2 h1 h3⟩
 ·intro tm w y ck cA dA hy bJ
  have hB:=cJ 3 y w bJ
  obtain ⟨a,s',x,w2,hr,h1,h2,h3,h4⟩:=id bJ
  obtain ⟨ya,yn,yc,rfl⟩:=aU h3
  refine eh rfl rfl _ (.tmp 17) (.tmp 15) rfl (dA 15 (by omega) (by omega)) hy (qT w (hB.row hi) (hB.frozen _)) ?_
  go_end0
  exact Ph.last hN jt hi bJ
theorem MD {α:Type}{lo b g:Nat}{nm:ByteArray}{ss:List Slot}{N:(Nat→Prop)→World→Prop}{V W w0:World}{s:ay}{sl:Slot}{r:Except (Int×Int) (α×ay)}{N1:α→Value→(Nat→Prop)→World→Prop}{pm pr bt:Nat}{T:TypeId}{i pb:Nat}{bl bh:Int}{bm:Bool} (h:Ap lo b g T nm ss N V W s w0) (hN:aQ N) (jt:∀a x,aQ (N1 a x)) (hi:ss[i]?=some sl) (eo:Fit 47 sl bt N1) (hn:sl.n≤100000)
  (eP:∀P w,N P w→∀c ∈ ([(pm,#[.pointer (some ⟨g,i+1,none⟩)],176),(pr,#[.pointer (some ⟨b,0,none⟩)],74),(pb,#[.int .i64 bl,.int .i64 bh,.bool bm],175)]:List (Nat×Array Value×TypeId)),aW c.1 c.2.1 c.2.2 P w) (c8:∀w,Ap lo b g T nm ss N V W s w→Calls Tryz.prog 172 #[.pointer (some ⟨b,0,none⟩),.agg #[.int .i64 bl,.int .i64 bh,.bool bm]] w (CR lo b N1 w r)) :
  Calls Tryz.prog 171 #[.pointer (some ⟨pm,0,none⟩),.pointer (some ⟨pr,0,none⟩),.pointer (some ⟨pb,0,none⟩)] w0 (CP lo b g T nm ss N V W i sl r N1):=by
 obtain ⟨va,vn,vc,hv⟩:=aU (h.bx.own i sl hi)
 obtain ⟨ei,mj,pd,sd,fx⟩:=eo
 have cJ:=Ph.base (lo:=lo) (b:=b) (g:=g) (T:=T) (nm:=nm) (V:=V) (W:=W) (s:=s) (r:=r) (N1:=N1) eP hi
 have hd:=h.up hN (zE w0.heap.size w0).drew
 go_enter Tryz.func171,Tryz.ntmps171
 refine du (z:=10) (N:=13) (c:=6) (by kernel_rfl) (fun k=>k+3) (fun k=>[.pointer (some ⟨g,i+1,none⟩),.pointer (some ⟨g,i+1,none⟩),.pointer (some ⟨g,i+1,none⟩),sl.v,.pointer (some ⟨b,0,none⟩),.agg #[.int .i64 bl,.int .i64 bh,.bool bm],undef,undef,undef,.pointer (some ⟨g,i+1,none⟩)].getD k undef) (Ph lo b g T nm ss N V W s sl r N1) _ w0 rfl rfl (fun i j _ _ e=>by omega) (fun i hi=>by omega) (by kernel_rfl) (by omega) (by kernel_rfl) (by kernel_rfl) (by kernel_rfl) hd ?_ ?_ ?_ ?_ ?_
 ·intro k tm w hk hq ck cA a8 bJ
  obtain ⟨ph,x,bJ⟩:=bJ
  have hB:=cJ ph x w bJ
  match k,hk with
  |0,_=>exact aY rfl rfl _ (.tmp 0) rfl (cA 0 (by intro i hi;omega)) (rk w (hB.cell (List.mem_cons_self ..) rfl)) ⟨rfl,rfl⟩
  |1,_=>exact aY rfl rfl _ (.tmp 0) rfl (cA 0 (by intro i hi;omega)) (rk w (hB.cell (List.mem_cons_self ..) rfl)) ⟨rfl,rfl⟩
  |2,_=>exact bc rfl rfl (.tmp 4) rfl (a8 1 (by omega) (by kernel_rfl)) ⟨rfl,rfl⟩
  |3,_=>exact aY rfl rfl _ (.tmp 5) rfl (a8 2 (by omega) (by kernel_rfl)) (by rw[hv];exact Ki w (by rw[←hv];exact hB.row hi)) ⟨rfl,rfl⟩
  |4,_=>exact aY rfl rfl _ (.tmp 1) rfl (cA 1 (by intro i hi;omega)) (dh w (hB.cell (zF _ (List.mem_cons_self ..)) rfl)) ⟨rfl,rfl⟩
  |5,_=>exact aY rfl rfl _ (.tmp 2) rfl (cA 2 (by intro i hi;omega)) (Kj w (hB.cell (j:=0) (zF _ (zF _ (List.mem_cons_self ..))) rfl) (hB.cell (j:=1) (zF _ (zF _ (List.mem_cons_self ..))) rfl) (hB.cell (j:=2) (zF _ (zF _ (List.mem_cons_self ..))) rfl)) ⟨rfl,rfl⟩
  |6,_=>omega
  |7,_=>omega
  |8,_=>omega
  |9,_=>exact bc rfl rfl (.tmp 3) rfl (a8 0 (by omega) (by kernel_rfl)) ⟨rfl,rfl⟩
 ·intro tm w ck cA a8 bJ
  have bd:Ap lo b g T nm ss N V W s w:=bJ
  refine cF rfl rfl 172 (SG w) _ _ rfl #[.pointer (some ⟨b,0,none⟩),.agg #[.int .i64 bl,.int .i64 bh,.bool bm]] ?_ (c8 w bd) ?_
  ·simp only[List.map_toArray,List.map_cons,List.map_nil,Act.eval]
   rw[show tm.getD 7 undef=_ from a8 4 (by omega) (by kernel_rfl),show tm.getD 8 undef=_ from a8 5 (by omega) (by kernel_rfl)]
   rfl
  ·intro e w' kz
   rcases Ph.call hN jt bJ kz with ⟨x,rfl,h1⟩|⟨y,hr,rfl,hs⟩
   ·exact .inl ⟨x,rfl,x,rfl,h1⟩
   ·exact .inr ⟨_,rfl,rfl,by unfold CP;rw[hr];exact ⟨rfl,hs⟩⟩
 ·intro tm w x ck hx bJ
  obtain ⟨a,s',hr,iK,bd⟩:=id bJ
  obtain ⟨f1,f2,f3⟩:=fx a x _ _ iK
  exact kj rfl rfl _ _ _ rfl #[(0,x)] (by simp only[List.map_toArray,List.map_cons,List.map_nil,Act.eval];rw[show tm.getD 9 undef=x from hx]) (f3 w) ⟨_,rfl,Ph.bs hN jt bJ⟩
 ·intro tm w y ck a8 hy bJ
  obtain ⟨a,s',x,gy,hr,rfl,sN,iK,bd⟩:=id bJ
  obtain ⟨f1,f2,f3⟩:=fx a x _ _ iK
  have hl:=bd.bx.lt
  refine cu w rfl rfl (.tmp 6) (.tmp 10) 47 rfl (g+1) sl.t sl.sz bt mj ei pd sl.v sl.n sl.xs (a8 3 (by omega) (by kernel_rfl)) (bd.bx.own i sl hi) ⟨gy,0,none⟩ 1 1 x.cells.toList hy (by rw[Array.length_toList,f1];omega) (ef sN) f2 (by unfold maxLen;omega) (by have:(sl.n+1)*bt≤100001*1000:=Nat.mul_le_mul (by omega) sd;omega) (by omega) ?_
  intro v' w' h1 h2 h3
  exact ⟨v',rfl,Ph.app hr bd h2 h1 h3⟩
 ·intro tm w y ck cA dA hy bJ
  have hB:=cJ 3 y w bJ
  obtain ⟨a,s',x,w2,hr,h1,h2,h3,h4⟩:=id bJ
  obtain ⟨ya,yn,yc,rfl⟩:=aU h3
  refine eh rfl rfl _ (.tmp 12) (.tmp 11) rfl (dA 9 (by omega) (by omega)) hy (JS w (hB.row hi) (hB.frozen _)) ?_
  go_end0
  exact Ph.last hN jt hi bJ
theorem MC {α:Type}{lo b g:Nat}{nm:ByteArray}{ss:List Slot}{N:(Nat→Prop)→World→Prop}{V W w0:World}{s:ay}{sl:Slot}{r:Except (Int×Int) (α×ay)}{N1:α→Value→(Nat→Prop)→World→Prop}{pm pr bt:Nat}{T:TypeId}{i:Nat} (h:Ap lo b g T nm ss N V W s w0) (hN:aQ N) (jt:∀a x,aQ (N1 a x)) (hi:ss[i]?=some sl) (eo:Fit 22 sl bt N1) (hn:sl.n≤100000)
  (eP:∀P w,N P w→∀c ∈ ([(pm,#[.pointer (some ⟨g,i+1,none⟩)],177),(pr,#[.pointer (some ⟨b,0,none⟩)],74)]:List (Nat×Array Value×TypeId)),aW c.1 c.2.1 c.2.2 P w) (c8:∀w,Ap lo b g T nm ss N V W s w→Calls Tryz.prog 174 #[.pointer (some ⟨b,0,none⟩)] w (CR lo b N1 w r)) :
  Calls Tryz.prog 173 #[.pointer (some ⟨pm,0,none⟩),.pointer (some ⟨pr,0,none⟩)] w0 (CP lo b g T nm ss N V W i sl r N1):=by
 obtain ⟨va,vn,vc,hv⟩:=aU (h.bx.own i sl hi)
 obtain ⟨ei,mj,pd,sd,fx⟩:=eo
 have cJ:=Ph.base (lo:=lo) (b:=b) (g:=g) (T:=T) (nm:=nm) (V:=V) (W:=W) (s:=s) (r:=r) (N1:=N1) eP hi
 have hd:=h.up hN (zE w0.heap.size w0).drew
 go_enter Tryz.func173,Tryz.ntmps173
 refine du (z:=9) (N:=11) (c:=5) (by kernel_rfl) (fun k=>k+2) (fun k=>[.pointer (some ⟨g,i+1,none⟩),.pointer (some ⟨g,i+1,none⟩),.pointer (some ⟨g,i+1,none⟩),sl.v,.pointer (some ⟨b,0,none⟩),undef,undef,undef,.pointer (some ⟨g,i+1,none⟩)].getD k undef) (Ph lo b g T nm ss N V W s sl r N1) _ w0 rfl rfl (fun i j _ _ e=>by omega) (fun i hi=>by omega) (by kernel_rfl) (by omega) (by kernel_rfl) (by kernel_rfl) (by kernel_rfl) hd ?_ ?_ ?_ ?_ ?_
 ·intro k tm w hk hq ck cA a8 bJ
  obtain ⟨ph,x,bJ⟩:=bJ
  have hB:=cJ ph x w bJ
  match k,hk with
  |0,_=>exact aY rfl rfl _ (.tmp 0) rfl (cA 0 (by intro i hi;omega)) (yB w (hB.cell (List.mem_cons_self ..) rfl)) ⟨rfl,rfl⟩
  |1,_=>exact aY rfl rfl _ (.tmp 0) rfl (cA 0 (by intro i hi;omega)) (yB w (hB.cell (List.mem_cons_self ..) rfl)) ⟨rfl,rfl⟩
  |2,_=>exact bc rfl rfl (.tmp 3) rfl (a8 1 (by omega) (by kernel_rfl)) ⟨rfl,rfl⟩
  |3,_=>exact aY rfl rfl _ (.tmp 4) rfl (a8 2 (by omega) (by kernel_rfl)) (by rw[hv];exact xq w (by rw[←hv];exact hB.row hi)) ⟨rfl,rfl⟩
  |4,_=>exact aY rfl rfl _ (.tmp 1) rfl (cA 1 (by intro i hi;omega)) (dh w (hB.cell (zF _ (List.mem_cons_self ..)) rfl)) ⟨rfl,rfl⟩
  |5,_=>omega
  |6,_=>omega
  |7,_=>omega
  |8,_=>exact bc rfl rfl (.tmp 2) rfl (a8 0 (by omega) (by kernel_rfl)) ⟨rfl,rfl⟩
 ·intro tm w ck cA a8 bJ
  have bd:Ap lo b g T nm ss N V W s w:=bJ
  refine cF rfl rfl 174 (Cp w) _ _ rfl #[.pointer (some ⟨b,0,none⟩)] ?_ (c8 w bd) ?_
  ·simp only[List.map_toArray,List.map_cons,List.map_nil,Act.eval]
   rw[show tm.getD 6 undef=_ from a8 4 (by omega) (by kernel_rfl)]
   rfl
  ·intro e w' kz
   rcases Ph.call hN jt bJ kz with ⟨x,rfl,h1⟩|⟨y,hr,rfl,hs⟩
   ·exact .inl ⟨x,rfl,x,rfl,h1⟩
   ·exact .inr ⟨_,rfl,rfl,by unfold CP;rw[hr];exact ⟨rfl,hs⟩⟩
 ·intro tm w x ck hx bJ
  obtain ⟨a,s',hr,iK,bd⟩:=id bJ
  obtain ⟨f1,f2,f3⟩:=fx a x _ _ iK
  exact kj rfl rfl _ _ _ rfl #[(0,x)] (by simp only[List.map_toArray,List.map_cons,List.map_nil,Act.eval];rw[show tm.getD 7 undef=x from hx]) (f3 w) ⟨_,rfl,Ph.bs hN jt bJ⟩
 ·intro tm w y ck a8 hy bJ
  obtain ⟨a,s',x,gy,hr,rfl,sN,iK,bd⟩:=id bJ
  obtain ⟨f1,f2,f3⟩:=fx a x _ _ iK
  have hl:=bd.bx.lt
  refine cu w rfl rfl (.tmp 5) (.tmp 8) 22 rfl (g+1) sl.t sl.sz bt mj ei pd sl.v sl.n sl.xs (a8 3 (by omega) (by kernel_rfl)) (bd.bx.own i sl hi) ⟨gy,0,none⟩ 1 1 x.cells.toList hy (by rw[Array.length_toList,f1];omega) (ef sN) f2 (by unfold maxLen;omega) (by have:(sl.n+1)*bt≤100001*1000:=Nat.mul_le_mul (by omega) sd;omega) (by omega) ?_
  intro v' w' h1 h2 h3
  exact ⟨v',rfl,Ph.app hr bd h2 h1 h3⟩
 ·intro tm w y ck cA dA hy bJ
  have hB:=cJ 3 y w bJ
  obtain ⟨a,s',x,w2,hr,h1,h2,h3,h4⟩:=id bJ
  obtain ⟨ya,yn,yc,rfl⟩:=aU h3
  refine eh rfl rfl _ (.tmp 10) (.tmp 9) rfl (dA 8 (by omega) (by omega)) hy (Bo w (hB.row hi) (hB.frozen _)) ?_
  go_end0
  exact Ph.last hN jt hi bJ
end Go.Proofs.YtjophoclfccmcaaGreatDoor

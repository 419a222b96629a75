import Derived.Test.YtmlphohdcejniaaGreatDoorPbF
set_option maxHeartbeats 4000000
set_option maxRecDepth 100000
namespace Go.Proofs.YtmlphohdcejniaaGreatDoor
open Go.RowKit
attribute [local go_sem ↓] Go.wp_at_zero Go.wp_at_succ
theorem KY {α:Type}{lo b g:Nat}{nm:ByteArray}{ss:List Slot}{N:(Nat→Prop)→World→Prop}{V W w0:World}{s:aI}{sl:Slot}{r:Except (Int×Int) (α×aI)}{N1:α→Value→(Nat→Prop)→World→Prop}{pm pr bt:Nat} (h:Ap lo b g 64 nm ss N V W s w0) (hN:aK N) (iq:∀a x,aK (N1 a x)) (hi:ss[0]?=some sl) (dR:Fit 61 sl bt N1) (hn:sl.n≤100000)
  (cn:∀P w,N P w→∀c ∈ ([(pm,#[.pointer (some ⟨g,0,none⟩)],167),(pr,#[.pointer (some ⟨b,0,none⟩)],107)]:List (Nat×Array Value×TypeId)),aP c.1 c.2.1 c.2.2 P w) (cD:∀w,Ap lo b g 64 nm ss N V W s w→Calls Tryz.prog 158 #[.pointer (some ⟨b,0,none⟩),.int .i64 2] w (CR lo b N1 w r)) :
  Calls Tryz.prog 157 #[.pointer (some ⟨pm,0,none⟩),.pointer (some ⟨pr,0,none⟩)] w0 (CP lo b g 64 nm ss N V W 0 sl r N1):=by
 obtain ⟨va,vn,vc,hv⟩:=aL (h.bx.own 0 sl hi)
 obtain ⟨ei,kT,mG,qe,fx⟩:=dR
 have ca:=Ph.base (lo:=lo) (b:=b) (g:=g) (T:=64) (nm:=nm) (V:=V) (W:=W) (s:=s) (r:=r) (N1:=N1) cn hi
 have hd:=h.up hN (zE w0.heap.size w0).drew
 go_enter Tryz.func157,Tryz.ntmps157
 refine cN (z:=11) (N:=13) (c:=6) (by kernel_rfl) (fun k=>k+2) (fun k=>[.pointer (some ⟨g,0,none⟩),.pointer (some ⟨g,0,none⟩),.pointer (some ⟨g,0,none⟩),.pointer (some ⟨g,1,none⟩),sl.v,.pointer (some ⟨b,0,none⟩),undef,undef,undef,.pointer (some ⟨g,0,none⟩),.pointer (some ⟨g,1,none⟩)].getD k undef) (Ph lo b g 64 nm ss N V W s sl r N1) _ w0 rfl rfl (fun i j _ _ e=>by omega) (fun i hi=>by omega) (by kernel_rfl) (by omega) (by kernel_rfl) (by kernel_rfl) (by kernel_rfl) hd ?_ ?_ ?_ ?_ ?_
 ·intro k tm w hk hq bR bW aV bA
  obtain ⟨ph,x,bA⟩:=bA
  have hB:=ca ph x w bA
  match k,hk with
  |0,_=>exact aS rfl rfl _ (.tmp 0) rfl (bW 0 (by intro i hi;omega)) (cz w (hB.cell (List.mem_cons_self ..) rfl)) ⟨rfl,rfl⟩
  |1,_=>exact aS rfl rfl _ (.tmp 0) rfl (bW 0 (by intro i hi;omega)) (cz w (hB.cell (List.mem_cons_self ..) rfl)) ⟨rfl,rfl⟩
  |2,_=>exact aY rfl rfl (.tmp 3) rfl (aV 1 (by omega) (by kernel_rfl)) ⟨rfl,rfl⟩
  |3,_=>exact bI rfl rfl _ (.tmp 4) _ rfl (aV 2 (by omega) (by kernel_rfl)) (iz w) ⟨rfl,rfl⟩
  |4,_=>exact aS rfl rfl _ (.tmp 5) rfl (aV 3 (by omega) (by kernel_rfl)) (by rw[hv];exact pw w (by rw[←hv];exact hB.row hi)) ⟨rfl,rfl⟩
  |5,_=>exact aS rfl rfl _ (.tmp 1) rfl (bW 1 (by intro i hi;omega)) (cJ w (hB.cell (zF _ (List.mem_cons_self ..)) rfl)) ⟨rfl,rfl⟩
  |6,_=>omega
  |7,_=>omega
  |8,_=>omega
  |9,_=>exact aY rfl rfl (.tmp 2) rfl (aV 0 (by omega) (by kernel_rfl)) ⟨rfl,rfl⟩
  |10,_=>exact bI rfl rfl _ (.tmp 11) _ rfl (aV 9 (by omega) (by kernel_rfl)) (iz w) ⟨rfl,rfl⟩
 ·intro tm w bR bW aV bA
  have aZ:Ap lo b g 64 nm ss N V W s w:=bA
  refine b9 rfl rfl 158 (pP w) _ _ rfl #[.pointer (some ⟨b,0,none⟩),.int .i64 2] ?_ (cD w aZ) ?_
  ·simp only[List.map_toArray,List.map_cons,List.map_nil,Act.eval]
   rw[show tm.getD 7 undef=_ from aV 5 (by omega) (by kernel_rfl)]
   rfl
  ·intro e w' jD
   rcases Ph.call hN iq bA jD with ⟨x,rfl,h1⟩|⟨y,hr,rfl,hs⟩
   ·exact .inl ⟨x,rfl,x,rfl,h1⟩
   ·exact .inr ⟨_,rfl,rfl,by unfold CP;rw[hr];exact ⟨rfl,hs⟩⟩
 ·intro tm w x bR hx bA
  obtain ⟨a,s',hr,ep,aZ⟩:=id bA
  obtain ⟨f1,f2,f3⟩:=fx a x _ _ ep
  exact jt rfl rfl _ _ _ rfl #[(0,x)] (by simp only[List.map_toArray,List.map_cons,List.map_nil,Act.eval];rw[show tm.getD 8 undef=x from hx]) (f3 w) ⟨_,rfl,Ph.bs hN iq bA⟩
 ·intro tm w y bR aV hy bA
  obtain ⟨a,s',x,gy,hr,rfl,qD,ep,aZ⟩:=id bA
  obtain ⟨f1,f2,f3⟩:=fx a x _ _ ep
  have hl:=aZ.bx.lt
  refine bT w rfl rfl (.tmp 6) (.tmp 9) 61 rfl (g+1) sl.t sl.sz bt kT ei mG sl.v sl.n sl.xs (aV 4 (by omega) (by kernel_rfl)) (aZ.bx.own 0 sl hi) ⟨gy,0,none⟩ 1 1 x.cells.toList hy (by rw[Array.length_toList,f1];omega) (du qD) f2 (by unfold maxLen;omega) (by have:(sl.n+1)*bt≤100001*1000:=Nat.mul_le_mul (by omega) qe;omega) (by omega) ?_
  intro v' w' h1 h2 h3
  exact ⟨v',rfl,Ph.app hr aZ h2 h1 h3⟩
 ·intro tm w y bR bW cZ hy bA
  have hB:=ca 3 y w bA
  obtain ⟨a,s',x,w2,hr,h1,h2,h3,h4⟩:=id bA
  obtain ⟨ya,yn,yc,rfl⟩:=aL h3
  refine dv rfl rfl _ (.tmp 12) (.tmp 10) rfl (cZ 10 (by omega) (by omega)) hy (oY w (hB.row hi) (hB.frozen _)) ?_
  go_end0
  exact Ph.last hN iq hi bA
theorem KX {α:Type}{lo b g:Nat}{nm:ByteArray}{ss:List Slot}{N:(Nat→Prop)→World→Prop}{V W w0:World}{s:aI}{sl:Slot}{r:Except (Int×Int) (α×aI)}{N1:α→Value→(Nat→Prop)→World→Prop}{pm pr bt:Nat} (h:Ap lo b g 64 nm ss N V W s w0) (hN:aK N) (iq:∀a x,aK (N1 a x)) (hi:ss[0]?=some sl) (dR:Fit 61 sl bt N1) (hn:sl.n≤100000)
  (cn:∀P w,N P w→∀c ∈ ([(pm,#[.pointer (some ⟨g,0,none⟩)],167),(pr,#[.pointer (some ⟨b,0,none⟩)],107)]:List (Nat×Array Value×TypeId)),aP c.1 c.2.1 c.2.2 P w) (cD:∀w,Ap lo b g 64 nm ss N V W s w→Calls Tryz.prog 158 #[.pointer (some ⟨b,0,none⟩),.int .i64 3] w (CR lo b N1 w r)) :
  Calls Tryz.prog 159 #[.pointer (some ⟨pm,0,none⟩),.pointer (some ⟨pr,0,none⟩)] w0 (CP lo b g 64 nm ss N V W 0 sl r N1):=by
 obtain ⟨va,vn,vc,hv⟩:=aL (h.bx.own 0 sl hi)
 obtain ⟨ei,kT,mG,qe,fx⟩:=dR
 have ca:=Ph.base (lo:=lo) (b:=b) (g:=g) (T:=64) (nm:=nm) (V:=V) (W:=W) (s:=s) (r:=r) (N1:=N1) cn hi
 have hd:=h.up hN (zE w0.heap.size w0).drew
 go_enter Tryz.func159,Tryz.ntmps159
 refine cN (z:=11) (N:=13) (c:=6) (by kernel_rfl) (fun k=>k+2) (fun k=>[.pointer (some ⟨g,0,none⟩),.pointer (some ⟨g,0,none⟩),.pointer (some ⟨g,0,none⟩),.pointer (some ⟨g,1,none⟩),sl.v,.pointer (some ⟨b,0,none⟩),undef,undef,undef,.pointer (some ⟨g,0,none⟩),.pointer (some ⟨g,1,none⟩)].getD k undef) (Ph lo b g 64 nm ss N V W s sl r N1) _ w0 rfl rfl (fun i j _ _ e=>by omega) (fun i hi=>by omega) (by kernel_rfl) (by omega) (by kernel_rfl) (by kernel_rfl) (by kernel_rfl) hd ?_ ?_ ?_ ?_ ?_
 ·intro k tm w hk hq bR bW aV bA
  obtain ⟨ph,x,bA⟩:=bA
  have hB:=ca ph x w bA
  match k,hk with
  |0,_=>exact aS rfl rfl _ (.tmp 0) rfl (bW 0 (by intro i hi;omega)) (cz w (hB.cell (List.mem_cons_self ..) rfl)) ⟨rfl,rfl⟩
  |1,_=>exact aS rfl rfl _ (.tmp 0) rfl (bW 0 (by intro i hi;omega)) (cz w (hB.cell (List.mem_cons_self ..) rfl)) ⟨rfl,rfl⟩
  |2,_=>exact aY rfl rfl (.tmp 3) rfl (aV 1 (by omega) (by kernel_rfl)) ⟨rfl,rfl⟩
  |3,_=>exact bI rfl rfl _ (.tmp 4) _ rfl (aV 2 (by omega) (by kernel_rfl)) (iz w) ⟨rfl,rfl⟩
  |4,_=>exact aS rfl rfl _ (.tmp 5) rfl (aV 3 (by omega) (by kernel_rfl)) (by rw[hv];exact pw w (by rw[←hv];exact hB.row hi)) ⟨rfl,rfl⟩
  |5,_=>exact aS rfl rfl _ (.tmp 1) rfl (bW 1 (by intro i hi;omega)) (cJ w (hB.cell (zF _ (List.mem_cons_self ..)) rfl)) ⟨rfl,rfl⟩
  |6,_=>omega
  |7,_=>omega
  |8,_=>omega
  |9,_=>exact aY rfl rfl (.tmp 2) rfl (aV 0 (by omega) (by kernel_rfl)) ⟨rfl,rfl⟩
  |10,_=>exact bI rfl rfl _ (.tmp 11) _ rfl (aV 9 (by omega) (by kernel_rfl)) (iz w) ⟨rfl,rfl⟩
 ·intro tm w bR bW aV bA
  have aZ:Ap lo b g 64 nm ss N V W s w:=bA
  refine b9 rfl rfl 158 (pP w) _ _ rfl #[.pointer (some ⟨b,0,none⟩),.int .i64 3] ?_ (cD w aZ) ?_
  ·simp only[List.map_toArray,List.map_cons,List.map_nil,Act.eval]
   rw[show tm.getD 7 undef=_ from aV 5 (by omega) (by kernel_rfl)]
   rfl
  ·intro e w' jD
   rcases Ph.call hN iq bA jD with ⟨x,rfl,h1⟩|⟨y,hr,rfl,hs⟩
   ·exact .inl ⟨x,rfl,x,rfl,h1⟩
   ·exact .inr ⟨_,rfl,rfl,by unfold CP;rw[hr];exact ⟨rfl,hs⟩⟩
 ·intro tm w x bR hx bA
  obtain ⟨a,s',hr,ep,aZ⟩:=id bA
  obtain ⟨f1,f2,f3⟩:=fx a x _ _ ep
  exact jt rfl rfl _ _ _ rfl #[(0,x)] (by simp only[List.map_toArray,List.map_cons,List.map_nil,Act.eval];rw[show tm.getD 8 undef=x from hx]) (f3 w) ⟨_,rfl,Ph.bs hN iq bA⟩
 ·intro tm w y bR aV hy bA
  obtain ⟨a,s',x,gy,hr,rfl,qD,ep,aZ⟩:=id bA
  obtain ⟨f1,f2,f3⟩:=fx a x _ _ ep
  have hl:=aZ.bx.lt
  refine bT w rfl rfl (.tmp 6) (.tmp 9) 61 rfl (g+1) sl.t sl.sz bt kT ei mG sl.v sl.n sl.xs (aV 4 (by omega) (by kernel_rfl)) (aZ.bx.own 0 sl hi) ⟨gy,0,none⟩ 1 1 x.cells.toList hy (by rw[Array.length_toList,f1];omega) (du qD) f2 (by unfold maxLen;omega) (by have:(sl.n+1)*bt≤100001*1000:=Nat.mul_le_mul (by omega) qe;omega) (by omega) ?_
  intro v' w' h1 h2 h3
  exact ⟨v',rfl,Ph.app hr aZ h2 h1 h3⟩
 ·intro tm w y bR bW cZ hy bA
  have hB:=ca 3 y w bA
  obtain ⟨a,s',x,w2,hr,h1,h2,h3,h4⟩:=id bA
  obtain ⟨ya,yn,yc,rfl⟩:=aL h3
  refine dv rfl rfl _ (.tmp 12) (.tmp 10) rfl (cZ 10 (by omega) (by omega)) hy (oY w (hB.row hi) (hB.frozen _)) ?_
  go_end0
  exact Ph.last hN iq hi bA
theorem KV {α:Type}{lo b g:Nat}{nm:ByteArray}{ss:List Slot}{N:(Nat→Prop)→World→Prop}{V W w0:World}{s:aI}{sl:Slot}{r:Except (Int×Int) (α×aI)}{N1:α→Value→(Nat→Prop)→World→Prop}{pm pr bt:Nat} (h:Ap lo b g 64 nm ss N V W s w0) (hN:aK N) (iq:∀a x,aK (N1 a x)) (hi:ss[0]?=some sl) (dR:Fit 61 sl bt N1) (hn:sl.n≤100000)
  (cn:∀P w,N P w→∀c ∈ ([(pm,#[.pointer (some ⟨g,0,none⟩)],167),(pr,#[.pointer (some ⟨b,0,none⟩)],107)]:List (Nat×Array Value×TypeId)),aP c.1 c.2.1 c.2.2 P w) (cD:∀w,Ap lo b g 64 nm ss N V W s w→Calls Tryz.prog 161 #[.pointer (some ⟨b,0,none⟩)] w (CR lo b N1 w r)) :
  Calls Tryz.prog 160 #[.pointer (some ⟨pm,0,none⟩),.pointer (some ⟨pr,0,none⟩)] w0 (CP lo b g 64 nm ss N V W 0 sl r N1):=by
 obtain ⟨va,vn,vc,hv⟩:=aL (h.bx.own 0 sl hi)
 obtain ⟨ei,kT,mG,qe,fx⟩:=dR
 have ca:=Ph.base (lo:=lo) (b:=b) (g:=g) (T:=64) (nm:=nm) (V:=V) (W:=W) (s:=s) (r:=r) (N1:=N1) cn hi
 have hd:=h.up hN (zE w0.heap.size w0).drew
 go_enter Tryz.func160,Tryz.ntmps160
 refine cN (z:=11) (N:=13) (c:=6) (by kernel_rfl) (fun k=>k+2) (fun k=>[.pointer (some ⟨g,0,none⟩),.pointer (some ⟨g,0,none⟩),.pointer (some ⟨g,0,none⟩),.pointer (some ⟨g,1,none⟩),sl.v,.pointer (some ⟨b,0,none⟩),undef,undef,undef,.pointer (some ⟨g,0,none⟩),.pointer (some ⟨g,1,none⟩)].getD k undef) (Ph lo b g 64 nm ss N V W s sl r N1) _ w0 rfl rfl (fun i j _ _ e=>by omega) (fun i hi=>by omega) (by kernel_rfl) (by omega) (by kernel_rfl) (by kernel_rfl) (by kernel_rfl) hd ?_ ?_ ?_ ?_ ?_
 ·intro k tm w hk hq bR bW aV bA
  obtain ⟨ph,x,bA⟩:=bA
  have hB:=ca ph x w bA
  match k,hk with
  |0,_=>exact aS rfl rfl _ (.tmp 0) rfl (bW 0 (by intro i hi;omega)) (cz w (hB.cell (List.mem_cons_self ..) rfl)) ⟨rfl,rfl⟩
  |1,_=>exact aS rfl rfl _ (.tmp 0) rfl (bW 0 (by intro i hi;omega)) (cz w (hB.cell (List.mem_cons_self ..) rfl)) ⟨rfl,rfl⟩
  |2,_=>exact aY rfl rfl (.tmp 3) rfl (aV 1 (by omega) (by kernel_rfl)) ⟨rfl,rfl⟩
  |3,_=>exact bI rfl rfl _ (.tmp 4) _ rfl (aV 2 (by omega) (by kernel_rfl)) (iz w) ⟨rfl,rfl⟩
  |4,_=>exact aS rfl rfl _ (.tmp 5) rfl (aV 3 (by omega) (by kernel_rfl)) (by rw[hv];exact pw w (by rw[←hv];exact hB.row hi)) ⟨rfl,rfl⟩
  |5,_=>exact aS rfl rfl _ (.tmp 1) rfl (bW 1 (by intro i hi;omega)) (cJ w (hB.cell (zF _ (List.mem_cons_self ..)) rfl)) ⟨rfl,rfl⟩
  |6,_=>omega
  |7,_=>omega
  |8,_=>omega
  |9,_=>exact aY rfl rfl (.tmp 2) rfl (aV 0 (by omega) (by kernel_rfl)) ⟨rfl,rfl⟩
  |10,_=>exact bI rfl rfl _ (.tmp 11) _ rfl (aV 9 (by omega) (by kernel_rfl)) (iz w) ⟨rfl,rfl⟩
 ·intro tm w bR bW aV bA
  have aZ:Ap lo b g 64 nm ss N V W s w:=bA
  refine b9 rfl rfl 161 (wQ w) _ _ rfl #[.pointer (some ⟨b,0,none⟩)] ?_ (cD w aZ) ?_
  ·simp only[List.map_toArray,List.map_cons,List.map_nil,Act.eval]
   rw[show tm.getD 7 undef=_ from aV 5 (by omega) (by kernel_rfl)]
   rfl
  ·intro e w' jD
   rcases Ph.call hN iq bA jD with ⟨x,rfl,h1⟩|⟨y,hr,rfl,hs⟩
   ·exact .inl ⟨x,rfl,x,rfl,h1⟩
   ·exact .inr ⟨_,rfl,rfl,by unfold CP;rw[hr];exact ⟨rfl,hs⟩⟩
 ·intro tm w x bR hx bA
  obtain ⟨a,s',hr,ep,aZ⟩:=id bA
  obtain ⟨f1,f2,f3⟩:=fx a x _ _ ep
  exact jt rfl rfl _ _ _ rfl #[(0,x)] (by simp only[List.map_toArray,List.map_cons,List.map_nil,Act.eval];rw[show tm.getD 8 undef=x from hx]) (f3 w) ⟨_,rfl,Ph.bs hN iq bA⟩
 ·intro tm w y bR aV hy bA
  obtain ⟨a,s',x,gy,hr,rfl,qD,ep,aZ⟩:=id bA
  obtain ⟨f1,f2,f3⟩:=fx a x _ _ ep
  have hl:=aZ.bx.lt
  refine bT w rfl rfl (.tmp 6) (.tmp 9) 61 rfl (g+1) sl.t sl.sz bt kT ei mG sl.v sl.n sl.xs (aV 4 (by omega) (by kernel_rfl)) (aZ.bx.own 0 sl hi) ⟨gy,0,none⟩ 1 1 x.cells.toList hy (by rw[Array.length_toList,f1];omega) (du qD) f2 (by unfold maxLen;omega) (by have:(sl.n+1)*bt≤100001*1000:=Nat.mul_le_mul (by omega) qe;omega) (by omega) ?_
  intro v' w' h1 h2 h3
  exact ⟨v',rfl,Ph.app hr aZ h2 h1 h3⟩
 ·intro tm w y bR bW cZ hy bA
  have hB:=ca 3 y w bA
  obtain ⟨a,s',x,w2,hr,h1,h2,h3,h4⟩:=id bA
  obtain ⟨ya,yn,yc,rfl⟩:=aL h3
  refine dv rfl rfl _ (.tmp 12) (.tmp 10) rfl (cZ 10 (by omega) (by omega)) hy (oY w (hB.row hi) (hB.frozen _)) ?_
  go_end0
  exact Ph.last hN iq hi bA
theorem K1 {α:Type}{lo b g:Nat}{nm:ByteArray}{ss:List Slot}{N:(Nat→Prop)→World→Prop}{V W w0:World}{s:aI}{sl:Slot}{r:Except (Int×Int) (α×aI)}{N1:α→Value→(Nat→Prop)→World→Prop}{pm pr bt:Nat} (h:Ap lo b g 64 nm ss N V W s w0) (hN:aK N) (iq:∀a x,aK (N1 a x)) (hi:ss[3]?=some sl) (dR:Fit 24 sl bt N1) (hn:sl.n≤100000)
  (cn:∀P w,N P w→∀c ∈ ([(pm,#[.pointer (some ⟨g,0,none⟩)],167),(pr,#[.pointer (some ⟨b,0,none⟩)],107)]:List (Nat×Array Value×TypeId)),aP c.1 c.2.1 c.2.2 P w) (cD:∀w,Ap lo b g 64 nm ss N V W s w→Calls Tryz.prog 103 #[.pointer (some ⟨b,0,none⟩)] w (CR lo b N1 w r)) :
  Calls Tryz.prog 152 #[.pointer (some ⟨pm,0,none⟩),.pointer (some ⟨pr,0,none⟩)] w0 (CP lo b g 64 nm ss N V W 3 sl r N1):=by
 obtain ⟨va,vn,vc,hv⟩:=aL (h.bx.own 3 sl hi)
 obtain ⟨ei,kT,mG,qe,fx⟩:=dR
 have ca:=Ph.base (lo:=lo) (b:=b) (g:=g) (T:=64) (nm:=nm) (V:=V) (W:=W) (s:=s) (r:=r) (N1:=N1) cn hi
 have hd:=h.up hN (zE w0.heap.size w0).drew
 go_enter Tryz.func152,Tryz.ntmps152
 refine cN (z:=11) (N:=13) (c:=6) (by kernel_rfl) (fun k=>k+2) (fun k=>[.pointer (some ⟨g,0,none⟩),.pointer (some ⟨g,0,none⟩),.pointer (some ⟨g,0,none⟩),.pointer (some ⟨g,4,none⟩),sl.v,.pointer (some ⟨b,0,none⟩),undef,undef,undef,.pointer (some ⟨g,0,none⟩),.pointer (some ⟨g,4,none⟩)].getD k undef) (Ph lo b g 64 nm ss N V W s sl r N1) _ w0 rfl rfl (fun i j _ _ e=>by omega) (fun i hi=>by omega) (by kernel_rfl) (by omega) (by kernel_rfl) (by kernel_rfl) (by kernel_rfl) hd ?_ ?_ ?_ ?_ ?_
 ·intro k tm w hk hq bR bW aV bA
  obtain ⟨ph,x,bA⟩:=bA
  have hB:=ca ph x w bA
  match k,hk with
  |0,_=>exact aS rfl rfl _ (.tmp 0) rfl (bW 0 (by intro i hi;omega)) (cz w (hB.cell (List.mem_cons_self ..) rfl)) ⟨rfl,rfl⟩
  |1,_=>exact aS rfl rfl _ (.tmp 0) rfl (bW 0 (by intro i hi;omega)) (cz w (hB.cell (List.mem_cons_self ..) rfl)) ⟨rfl,rfl⟩
  |2,_=>exact aY rfl rfl (.tmp 3) rfl (aV 1 (by omega) (by kernel_rfl)) ⟨rfl,rfl⟩
  |3,_=>exact bI rfl rfl _ (.tmp 4) _ rfl (aV 2 (by omega) (by kernel_rfl)) (F7 w) ⟨rfl,rfl⟩
  |4,_=>exact aS rfl rfl _ (.tmp 5) rfl (aV 3 (by omega) (by kernel_rfl)) (by rw[hv];exact B7 w (by rw[←hv];exact hB.row hi)) ⟨rfl,rfl⟩
  |5,_=>exact aS rfl rfl _ (.tmp 1) rfl (bW 1 (by intro i hi;omega)) (cJ w (hB.cell (zF _ (List.mem_cons_self ..)) rfl)) ⟨rfl,rfl⟩
  |6,_=>omega
  |7,_=>omega
  |8,_=>omega
  |9,_=>exact aY rfl rfl (.tmp 2) rfl (aV 0 (by omega) (by kernel_rfl)) ⟨rfl,rfl⟩
  |10,_=>exact bI rfl rfl _ (.tmp 11) _ rfl (aV 9 (by omega) (by kernel_rfl)) (F7 w) ⟨rfl,rfl⟩
 ·intro tm w bR bW aV bA
  have aZ:Ap lo b g 64 nm ss N V W s w:=bA
  refine b9 rfl rfl 103 (CN w) _ _ rfl #[.pointer (some ⟨b,0,none⟩)] ?_ (cD w aZ) ?_
  ·simp only[List.map_toArray,List.map_cons,List.map_nil,Act.eval]
   rw[show tm.getD 7 undef=_ from aV 5 (by omega) (by kernel_rfl)]
   rfl
  ·intro e w' jD
   rcases Ph.call hN iq bA jD with ⟨x,rfl,h1⟩|⟨y,hr,rfl,hs⟩
   ·exact .inl ⟨x,rfl,x,rfl,h1⟩
   ·exact .inr ⟨_,rfl,rfl,by unfold CP;rw[hr];exact ⟨rfl,hs⟩⟩
 ·intro tm w x bR hx bA
  obtain ⟨a,s',hr,ep,aZ⟩:=id bA
  obtain ⟨f1,f2,f3⟩:=fx a x _ _ ep
  exact jt rfl rfl _ _ _ rfl #[(0,x)] (by simp only[List.map_toArray,List.map_cons,List.map_nil,Act.eval];rw[show tm.getD 8 undef=x from hx]) (f3 w) ⟨_,rfl,Ph.bs hN iq bA⟩
 ·intro tm w y bR aV hy bA
  obtain ⟨a,s',x,gy,hr,rfl,qD,ep,aZ⟩:=id bA
  obtain ⟨f1,f2,f3⟩:=fx a x _ _ ep
  have hl:=aZ.bx.lt
  refine bT w rfl rfl (.tmp 6) (.tmp 9) 24 rfl (g+1) sl.t sl.sz bt kT ei mG sl.v sl.n sl.xs (aV 4 (by omega) (by kernel_rfl)) (aZ.bx.own 3 sl hi) ⟨gy,0,none⟩ 1 1 x.cells.toList hy (by rw[Array.length_toList,f1];omega) (du qD) f2 (by unfold maxLen;omega) (by have:(sl.n+1)*bt≤100001*1000:=Nat.mul_le_mul (by omega) qe;omega) (by omega) ?_
  intro v' w' h1 h2 h3
  exact ⟨v',rfl,Ph.app hr aZ h2 h1 h3⟩
 ·intro tm w y bR bW cZ hy bA
  have hB:=ca 3 y w bA
  obtain ⟨a,s',x,w2,hr,h1,h2,h3,h4⟩:=id bA
  obtain ⟨ya,yn,yc,rfl⟩:=aL h3
  refine dv rfl rfl _ (.tmp 12) (.tmp 10) rfl (cZ 10 (by omega) (by omega)) hy (By w (hB.row hi) (hB.frozen _)) ?_
  go_end0
  exact Ph.last hN iq hi bA
theorem JU {α:Type}{lo b g:Nat}{nm:ByteArray}{ss:List Slot}{N:(Nat→Prop)→World→Prop}{V W w0:World}{s:aI}{sl:Slot}{r:Except (Int×Int) (α×aI)}{N1:α→Value→(Nat→Prop)→World→Prop}{pm pr bt:Nat} (h:Ap lo b g 26 nm ss N V W s w0) (hN:aK N) (iq:∀a x,aK (N1 a x)) (hi:ss[0]?=some sl) (dR:Fit 22 sl bt N1) (hn:sl.n≤100000)
  (cn:∀P w,N P w→∀c ∈ ([(pm,#[.pointer (some ⟨g,0,none⟩)],135),(pr,#[.pointer (some ⟨b,0,none⟩)],107)]:List (Nat×Array Value×TypeId)),aP c.1 c.2.1 c.2.2 P w) (cD:∀w,Ap lo b g 26 nm ss N V W s w→Calls Tryz.prog 99 #[.pointer (some ⟨b,0,none⟩)] w (CR lo b N1 w r)) :
  Calls Tryz.prog 98 #[.pointer (some ⟨pm,0,none⟩),.pointer (some ⟨pr,0,none⟩)] w0 (CP lo b g 26 nm ss N V W 0 sl r N1):=by
 obtain ⟨va,vn,vc,hv⟩:=aL (h.bx.own 0 sl hi)
 obtain ⟨ei,kT,mG,qe,fx⟩:=dR
 have ca:=Ph.base (lo:=lo) (b:=b) (g:=g) (T:=26) (nm:=nm) (V:=V) (W:=W) (s:=s) (r:=r) (N1:=N1) cn hi
 have hd:=h.up hN (zE w0.heap.size w0).drew
 go_enter Tryz.func98,Tryz.ntmps98
 refine cN (z:=11) (N:=13) (c:=6) (by kernel_rfl) (fun k=>k+2) (fun k=>[.pointer (some ⟨g,0,none⟩),.pointer (some ⟨g,0,none⟩),.pointer (some ⟨g,0,none⟩),.pointer (some ⟨g,1,none⟩),sl.v,.pointer (some ⟨b,0,none⟩),undef,undef,undef,.pointer (some ⟨g,0,none⟩),.pointer (some ⟨g,1,none⟩)].getD k undef) (Ph lo b g 26 nm ss N V W s sl r N1) _ w0 rfl rfl (fun i j _ _ e=>by omega) (fun i hi=>by omega) (by kernel_rfl) (by omega) (by kernel_rfl) (by kernel_rfl) (by kernel_rfl) hd ?_ ?_ ?_ ?_ ?_
 ·intro k tm w hk hq bR bW aV bA
  obtain ⟨ph,x,bA⟩:=bA
  have hB:=ca ph x w bA
  match k,hk with
  |0,_=>exact aS rfl rfl _ (.tmp 0) rfl (bW 0 (by intro i hi;omega)) (gh w (hB.cell (List.mem_cons_self ..) rfl)) ⟨rfl,rfl⟩
  |1,_=>exact aS rfl rfl _ (.tmp 0) rfl (bW 0 (by intro i hi;omega)) (gh w (hB.cell (List.mem_cons_self ..) rfl)) ⟨rfl,rfl⟩
  |2,_=>exact aY rfl rfl (.tmp 3) rfl (aV 1 (by omega) (by kernel_rfl)) ⟨rfl,rfl⟩
  |3,_=>exact bI rfl rfl _ (.tmp 4) _ rfl (aV 2 (by omega) (by kernel_rfl)) (Cz w) ⟨rfl,rfl⟩
  |4,_=>exact aS rfl rfl _ (.tmp 5) rfl (aV 3 (by omega) (by kernel_rfl)) (by rw[hv];exact tU w (by rw[←hv];exact hB.row hi)) ⟨rfl,rfl⟩
  |5,_=>exact aS rfl rfl _ (.tmp 1) rfl (bW 1 (by intro i hi;omega)) (cJ w (hB.cell (zF _ (List.mem_cons_self ..)) rfl)) ⟨rfl,rfl⟩
  |6,_=>omega
  |7,_=>omega
  |8,_=>omega
  |9,_=>exact aY rfl rfl (.tmp 2) rfl (aV 0 (by omega) (by kernel_rfl)) ⟨rfl,rfl⟩
  |10,_=>exact bI rfl rfl _ (.tmp 11) _ rfl (aV 9 (by omega) (by kernel_rfl)) (Cz w) ⟨rfl,rfl⟩
 ·intro tm w bR bW aV bA
  have aZ:Ap lo b g 26 nm ss N V W s w:=bA
  refine b9 rfl rfl 99 (AL w) _ _ rfl #[.pointer (some ⟨b,0,none⟩)] ?_ (cD w aZ) ?_
  ·simp only[List.map_toArray,List.map_cons,List.map_nil,Act.eval]
   rw[show tm.getD 7 undef=_ from aV 5 (by omega) (by kernel_rfl)]
   rfl
  ·intro e w' jD
   rcases Ph.call hN iq bA jD with ⟨x,rfl,h1⟩|⟨y,hr,rfl,hs⟩
   ·exact .inl ⟨x,rfl,x,rfl,h1⟩
   ·exact .inr ⟨_,rfl,rfl,by unfold CP;rw[hr];exact ⟨rfl,hs⟩⟩
 ·intro tm w x bR hx bA
  obtain ⟨a,s',hr,ep,aZ⟩:=id bA
  obtain ⟨f1,f2,f3⟩:=fx a x _ _ ep
  exact jt rfl rfl _ _ _ rfl #[(0,x)] (by simp only[List.map_toArray,List.map_cons,List.map_nil,Act.eval];rw[show tm.getD 8 undef=x from hx]) (f3 w) ⟨_,rfl,Ph.bs hN iq bA⟩
 ·intro tm w y bR aV hy bA
  obtain ⟨a,s',x,gy,hr,rfl,qD,ep,aZ⟩:=id bA
  obtain ⟨f1,f2,f3⟩:=fx a x _ _ ep
  have hl:=aZ.bx.lt
  refine bT w rfl rfl (.tmp 6) (.tmp 9) 22 rfl (g+1) sl.t sl.sz bt kT ei mG sl.v sl.n sl.xs (aV 4 (by omega) (by kernel_rfl)) (aZ.bx.own 0 sl hi) ⟨gy,0,none⟩ 1 1 x.cells.toList hy (by rw[Array.length_toList,f1];omega) (du qD) f2 (by unfold maxLen;omega) (by have:(sl.n+1)*bt≤100001*1000:=Nat.mul_le_mul (by omega) qe;omega) (by omega) ?_
  intro v' w' h1 h2 h3
  exact ⟨v',rfl,Ph.app hr aZ h2 h1 h3⟩
 ·intro tm w y bR bW cZ hy bA
  have hB:=ca 3 y w bA
  obtain ⟨a,s',x,w2,hr,h1,h2,h3,h4⟩:=id bA
  obtain ⟨ya,yn,yc,rfl⟩:=aL h3
  refine dv rfl rfl _ (.tmp 12) (.tmp 10) rfl (cZ 10 (by omega) (by omega)) hy (zp w (hB.row hi) (hB.frozen _)) ?_
  go_end0
  exact Ph.last hN iq hi bA
theorem JT {α:Type}{lo b g:Nat}{nm:ByteArray}{ss:List Slot}{N:(Nat→Prop)→World→Prop}{V W w0:World}{s:aI}{sl:Slot}{r:Except (Int×Int) (α×aI)}{N1:α→Value→(Nat→Prop)→World→Prop}{pm pr bt:Nat} (h:Ap lo b g 26 nm ss N V W s w0) (hN:aK N) (iq:∀a x,aK (N1 a x)) (hi:ss[2]?=some sl) (dR:Fit 24 sl bt N1) (hn:sl.n≤100000)
  (cn:∀P w,N P w→∀c ∈ ([(pm,#[.pointer (some ⟨g,0,none⟩)],135),(pr,#[.pointer (some ⟨b,0,none⟩)],107)]:List (Nat×Array Value×TypeId)),aP c.1 c.2.1 c.2.2 P w) (cD:∀w,Ap lo b g 26 nm ss N V W s w→Calls Tryz.prog 103 #[.pointer (some ⟨b,0,none⟩)] w (CR lo b N1 w r)) :
  Calls Tryz.prog 102 #[.pointer (some ⟨pm,0,none⟩),.pointer (some ⟨pr,0,none⟩)] w0 (CP lo b g 26 nm ss N V W 2 sl r N1):=by
 obtain ⟨va,vn,vc,hv⟩:=aL (h.bx.own 2 sl hi)
 obtain ⟨ei,kT,mG,qe,fx⟩:=dR
 have ca:=Ph.base (lo:=lo) (b:=b) (g:=g) (T:=26) (nm:=nm) (V:=V) (W:=W) (s:=s) (r:=r) (N1:=N1) cn hi
 have hd:=h.up hN (zE w0.heap.size w0).drew
 go_enter Tryz.func102,Tryz.ntmps102
 refine cN (z:=11) (N:=13) (c:=6) (by kernel_rfl) (fun k=>k+2) (fun k=>[.pointer (some ⟨g,0,none⟩),.pointer (some ⟨g,0,none⟩),.pointer (some ⟨g,0,none⟩),.pointer (some ⟨g,3,none⟩),sl.v,.pointer (some ⟨b,0,none⟩),undef,undef,undef,.pointer (some ⟨g,0,none⟩),.pointer (some ⟨g,3,none⟩)].getD k undef) (Ph lo b g 26 nm ss N V W s sl r N1) _ w0 rfl rfl (fun i j _ _ e=>by omega) (fun i hi=>by omega) (by kernel_rfl) (by omega) (by kernel_rfl) (by kernel_rfl) (by kernel_rfl) hd ?_ ?_ ?_ ?_ ?_
 ·intro k tm w hk hq bR bW aV bA
  obtain ⟨ph,x,bA⟩:=bA
  have hB:=ca ph x w bA
  match k,hk with
  |0,_=>exact aS rfl rfl _ (.tmp 0) rfl (bW 0 (by intro i hi;omega)) (gh w (hB.cell (List.mem_cons_self ..) rfl)) ⟨rfl,rfl⟩
  |1,_=>exact aS rfl rfl _ (.tmp 0) rfl (bW 0 (by intro i hi;omega)) (gh w (hB.cell (List.mem_cons_self ..) rfl)) ⟨rfl,rfl⟩
  |2,_=>exact aY rfl rfl (.tmp 3) rfl (aV 1 (by omega) (by kernel_rfl)) ⟨rfl,rfl⟩
  |3,_=>exact bI rfl rfl _ (.tmp 4) _ rfl (aV 2 (by omega) (by kernel_rfl)) (Cy w) ⟨rfl,rfl⟩
  |4,_=>exact aS rfl rfl _ (.tmp 5) rfl (aV 3 (by omega) (by kernel_rfl)) (by rw[hv];exact B7 w (by rw[←hv];exact hB.row hi)) ⟨rfl,rfl⟩
  |5,_=>exact aS rfl rfl _ (.tmp 1) rfl (bW 1 (by intro i hi;omega)) (cJ w (hB.cell (zF _ (List.mem_cons_self ..)) rfl)) ⟨rfl,rfl⟩
  |6,_=>omega
  |7,_=>omega
  |8,_=>omega
  |9,_=>exact aY rfl rfl (.tmp 2) rfl (aV 0 (by omega) (by kernel_rfl)) ⟨rfl,rfl⟩
  |10,_=>exact bI rfl rfl _ (.tmp 11) _ rfl (aV 9 (by omega) (by kernel_rfl)) (Cy w) ⟨rfl,rfl⟩
 ·intro tm w bR bW aV bA
  have aZ:Ap lo b g 26 nm ss N V W s w:=bA
  refine b9 rfl rfl 103 (CN w) _ _ rfl #[.pointer (some ⟨b,0,none⟩)] ?_ (cD w aZ) ?_
  ·simp only[List.map_toArray,List.map_cons,List.map_nil,Act.eval]
   rw[show tm.getD 7 undef=_ from aV 5 (by omega) (by kernel_rfl)]
   rfl
  ·intro e w' jD
   rcases Ph.call hN iq bA jD with ⟨x,rfl,h1⟩|⟨y,hr,rfl,hs⟩
   ·exact .inl ⟨x,rfl,x,rfl,h1⟩
   ·exact .inr ⟨_,rfl,rfl,by unfold CP;rw[hr];exact ⟨rfl,hs⟩⟩
 ·intro tm w x bR hx bA
  obtain ⟨a,s',hr,ep,aZ⟩:=id bA
  obtain ⟨f1,f2,f3⟩:=fx a x _ _ ep
  exact jt rfl rfl _ _ _ rfl #[(0,x)] (by simp only[List.map_toArray,List.map_cons,List.map_nil,Act.eval];rw[show tm.getD 8 undef=x from hx]) (f3 w) ⟨_,rfl,Ph.bs hN iq bA⟩
 ·intro tm w y bR aV hy bA
  obtain ⟨a,s',x,gy,hr,rfl,qD,ep,aZ⟩:=id bA
  obtain ⟨f1,f2,f3⟩:=fx a x _ _ ep
  have hl:=aZ.bx.lt
  refine bT w rfl rfl (.tmp 6) (.tmp 9) 24 rfl (g+1) sl.t sl.sz bt kT ei mG sl.v sl.n sl.xs (aV 4 (by omega) (by kernel_rfl)) (aZ.bx.own 2 sl hi) ⟨gy,0,none⟩ 1 1 x.cells.toList hy (by rw[Array.length_toList,f1];omega) (du qD) f2 (by unfold maxLen;omega) (by have:(sl.n+1)*bt≤100001*1000:=Nat.mul_le_mul (by omega) qe;omega) (by omega) ?_
  intro v' w' h1 h2 h3
  exact ⟨v',rfl,Ph.app hr aZ h2 h1 h3⟩
 ·intro tm w y bR bW cZ hy bA
  have hB:=ca 3 y w bA
  obtain ⟨a,s',x,w2,hr,h1,h2,h3,h4⟩:=id bA
  obtain ⟨ya,yn,yc,rfl⟩:=aL h3
  refine dv rfl rfl _ (.tmp 12) (.tmp 10) rfl (cZ 10 (by omega) (by omega)) hy (By w (hB.row hi) (hB.frozen _)) ?_
  go_end0
  exact Ph.last hN iq hi bA
theorem KO {α:Type}{lo b g:Nat}{nm:ByteArray}{ss:List Slot}{N:(Nat→Prop)→World→Prop}{V W w0:World}{s:aI}{sl:Slot}{r:Except (Int×Int) (α×aI)}{N1:α→Value→(Nat→Prop)→World→Prop}{pr bt:Nat} (h:Ap lo b g 64 nm ss N V W s w0) (hN:aK N) (iq:∀a x,aK (N1 a x)) (hi:ss[0]?=some sl) (dR:Fit 61 sl bt N1) (hn:sl.n≤100000)
  (cn:∀P w,N P w→∀c ∈ ([(pr,#[.pointer (some ⟨b,0,none⟩)],107)]:List (Nat×Array Value×TypeId)),aP c.1 c.2.1 c.2.2 P w) (cD:∀w,Ap lo b g 64 nm ss N V W s w→Calls Tryz.prog 126 #[.pointer (some ⟨b,0,none⟩),.int .i64 0] w (CR lo b N1 w r)) :
  Calls Tryz.prog 125 #[.pointer (some ⟨g,0,none⟩),.pointer (some ⟨pr,0,none⟩)] w0 (CP lo b g 64 nm ss N V W 0 sl r N1):=by
 obtain ⟨va,vn,vc,hv⟩:=aL (h.bx.own 0 sl hi)
 obtain ⟨ei,kT,mG,qe,fx⟩:=dR
 have ca:=Ph.base (lo:=lo) (b:=b) (g:=g) (T:=64) (nm:=nm) (V:=V) (W:=W) (s:=s) (r:=r) (N1:=N1) cn hi
 have hd:=h.up hN (zE w0.heap.size w0).drew
 go_enter Tryz.func125,Tryz.ntmps125
 refine cN (z:=7) (N:=9) (c:=3) (by kernel_rfl) (fun k=>k+2) (fun k=>[.pointer (some ⟨g,1,none⟩),sl.v,.pointer (some ⟨b,0,none⟩),undef,undef,undef,.pointer (some ⟨g,1,none⟩)].getD k undef) (Ph lo b g 64 nm ss N V W s sl r N1) _ w0 rfl rfl (fun i j _ _ e=>by omega) (fun i hi=>by omega) (by kernel_rfl) (by omega) (by kernel_rfl) (by kernel_rfl) (by kernel_rfl) hd ?_ ?_ ?_ ?_ ?_
 ·intro k tm w hk hq bR bW aV bA
  obtain ⟨ph,x,bA⟩:=bA
  have hB:=ca ph x w bA
  match k,hk with
  |0,_=>exact bI rfl rfl _ (.tmp 0) _ rfl (bW 0 (by intro i hi;omega)) (iz w) ⟨rfl,rfl⟩
  |1,_=>exact aS rfl rfl _ (.tmp 2) rfl (aV 0 (by omega) (by kernel_rfl)) (by rw[hv];exact pw w (by rw[←hv];exact hB.row hi)) ⟨rfl,rfl⟩
  |2,_=>exact aS rfl rfl _ (.tmp 1) rfl (bW 1 (by intro i hi;omega)) (cJ w (hB.cell (List.mem_cons_self ..) rfl)) ⟨rfl,rfl⟩
  |3,_=>omega
  |4,_=>omega
  |5,_=>omega
  |6,_=>exact bI rfl rfl _ (.tmp 0) _ rfl (bW 0 (by intro i hi;omega)) (iz w) ⟨rfl,rfl⟩
 ·intro tm w bR bW aV bA
  have aZ:Ap lo b g 64 nm ss N V W s w:=bA
  refine b9 rfl rfl 126 (yV w) _ _ rfl #[.pointer (some ⟨b,0,none⟩),.int .i64 0] ?_ (cD w aZ) ?_
  ·simp only[List.map_toArray,List.map_cons,List.map_nil,Act.eval]
   rw[show tm.getD 4 undef=_ from aV 2 (by omega) (by kernel_rfl)]
   rfl
  ·intro e w' jD
   rcases Ph.call hN iq bA jD with ⟨x,rfl,h1⟩|⟨y,hr,rfl,hs⟩
   ·exact .inl ⟨x,rfl,x,rfl,h1⟩
   ·exact .inr ⟨_,rfl,rfl,by unfold CP;rw[hr];exact ⟨rfl,hs⟩⟩
 ·intro tm w x bR hx bA
  obtain ⟨a,s',hr,ep,aZ⟩:=id bA
  obtain ⟨f1,f2,f3⟩:=fx a x _ _ ep
  exact jt rfl rfl _ _ _ rfl #[(0,x)] (by simp only[List.map_toArray,List.map_cons,List.map_nil,Act.eval];rw[show tm.getD 5 undef=x from hx]) (f3 w) ⟨_,rfl,Ph.bs hN iq bA⟩
 ·intro tm w y bR aV hy bA
  obtain ⟨a,s',x,gy,hr,rfl,qD,ep,aZ⟩:=id bA
  obtain ⟨f1,f2,f3⟩:=fx a x _ _ ep
  have hl:=aZ.bx.lt
  refine bT w rfl rfl (.tmp 3) (.tmp 6) 61 rfl (g+1) sl.t sl.sz bt kT ei mG sl.v sl.n sl.xs (aV 1 (by omega) (by kernel_rfl)) (aZ.bx.own 0 sl hi) ⟨gy,0,none⟩ 1 1 x.cells.toList hy (by rw[Array.length_toList,f1];omega) (du qD) f2 (by unfold maxLen;omega) (by have:(sl.n+1)*bt≤100001*1000:=Nat.mul_le_mul (by omega) qe;omega) (by omega) ?_
  intro v' w' h1 h2 h3
  exact ⟨v',rfl,Ph.app hr aZ h2 h1 h3⟩
 ·intro tm w y bR bW cZ hy bA
  have hB:=ca 3 y w bA
  obtain ⟨a,s',x,w2,hr,h1,h2,h3,h4⟩:=id bA
  obtain ⟨ya,yn,yc,rfl⟩:=aL h3
  refine dv rfl rfl _ (.tmp 8) (.tmp 7) rfl (cZ 6 (by omega) (by omega)) hy (oY w (hB.row hi) (hB.frozen _)) ?_
  go_end0
  exact Ph.last hN iq hi bA
theorem IM {α:Type}{lo b g:Nat}{nm:ByteArray}{ss:List Slot}{N:(Nat→Prop)→World→Prop}{V W w0:World}{s:aI}{sl:Slot}{r:Except (Int×Int) (α×aI)}{N1:α→Value→(Nat→Prop)→World→Prop}{pr bt:Nat} (h:Ap lo b g 68 nm ss N V W s w0) (hN:aK N) (iq:∀a x,aK (N1 a x)) (hi:ss[0]?=some sl) (dR:Fit 66 sl bt N1) (hn:sl.n≤100000)
  (cn:∀P w,N P w→∀c ∈ ([(pr,#[.pointer (some ⟨b,0,none⟩)],107)]:List (Nat×Array Value×TypeId)),aP c.1 c.2.1 c.2.2 P w) (cD:∀w,Ap lo b g 68 nm ss N V W s w→Calls Tryz.prog 129 #[.pointer (some ⟨b,0,none⟩)] w (CR lo b N1 w r)) :
  Calls Tryz.prog 128 #[.pointer (some ⟨g,0,none⟩),.pointer (some ⟨pr,0,none⟩)] w0 (CP lo b g 68 nm ss N V W 0 sl r N1):=by
 obtain ⟨va,vn,vc,hv⟩:=aL (h.bx.own 0 sl hi)
 obtain ⟨ei,kT,mG,qe,fx⟩:=dR
 have ca:=Ph.base (lo:=lo) (b:=b) (g:=g) (T:=68) (nm:=nm) (V:=V) (W:=W) (s:=s) (r:=r) (N1:=N1) cn hi
 have hd:=h.up hN (zE w0.heap.size w0).drew
 go_enter Tryz.func128,Tryz.ntmps128
 refine cN (z:=7) (N:=9) (c:=3) (by kernel_rfl) (fun k=>k+2) (fun k=>[.pointer (some ⟨g,1,none⟩),sl.v,.pointer (some ⟨b,0,none⟩),undef,undef,undef,.pointer (some ⟨g,1,none⟩)].getD k undef) (Ph lo b g 68 nm ss N V W s sl r N1) _ w0 rfl rfl (fun i j _ _ e=>by omega) (fun i hi=>by omega) (by kernel_rfl) (by omega) (by kernel_rfl) (by kernel_rfl) (by kernel_rfl) hd ?_ ?_ ?_ ?_ ?_
 ·intro k tm w hk hq bR bW aV bA
  obtain ⟨ph,x,bA⟩:=bA
  have hB:=ca ph x w bA
  match k,hk with
  |0,_=>exact bI rfl rfl _ (.tmp 0) _ rfl (bW 0 (by intro i hi;omega)) (yL w) ⟨rfl,rfl⟩
  |1,_=>exact aS rfl rfl _ (.tmp 2) rfl (aV 0 (by omega) (by kernel_rfl)) (by rw[hv];exact OK w (by rw[←hv];exact hB.row hi)) ⟨rfl,rfl⟩
  |2,_=>exact aS rfl rfl _ (.tmp 1) rfl (bW 1 (by intro i hi;omega)) (cJ w (hB.cell (List.mem_cons_self ..) rfl)) ⟨rfl,rfl⟩
  |3,_=>omega
  |4,_=>omega
  |5,_=>omega
  |6,_=>exact bI rfl rfl _ (.tmp 0) _ rfl (bW 0 (by intro i hi;omega)) (yL w) ⟨rfl,rfl⟩
 ·intro tm w bR bW aV bA
  have aZ:Ap lo b g 68 nm ss N V W s w:=bA
  refine b9 rfl rfl 129 (IX w) _ _ rfl #[.pointer (some ⟨b,0,none⟩)] ?_ (cD w aZ) ?_
  ·simp only[List.map_toArray,List.map_cons,List.map_nil,Act.eval]
   rw[show tm.getD 4 undef=_ from aV 2 (by omega) (by kernel_rfl)]
   rfl
  ·intro e w' jD
   rcases Ph.call hN iq bA jD with ⟨x,rfl,h1⟩|⟨y,hr,rfl,hs⟩
   ·exact .inl ⟨x,rfl,x,rfl,h1⟩
   ·exact .inr ⟨_,rfl,rfl,by unfold CP;rw[hr];exact ⟨rfl,hs⟩⟩
 ·intro tm w x bR hx bA
  obtain ⟨a,s',hr,ep,aZ⟩:=id bA
  obtain ⟨f1,f2,f3⟩:=fx a x _ _ ep
  exact jt rfl rfl _ _ _ rfl #[(0,x)] (by simp only[List.map_toArray,List.map_cons,List.map_nil,Act.eval];rw[show tm.getD 5 undef=x from hx]) (f3 w) ⟨_,rfl,Ph.bs hN iq bA⟩
 ·intro tm w y bR aV hy bA
  obtain ⟨a,s',x,gy,hr,rfl,qD,ep,aZ⟩:=id bA
  obtain ⟨f1,f2,f3⟩:=fx a x _ _ ep
  have hl:=aZ.bx.lt
  refine bT w rfl rfl (.tmp 3) (.tmp 6) 66 rfl (g+1) sl.t sl.sz bt kT ei mG sl.v sl.n sl.xs (aV 1 (by omega) (by kernel_rfl)) (aZ.bx.own 0 sl hi) ⟨gy,0,none⟩ 1 1 x.cells.toList hy (by rw[Array.length_toList,f1];omega) (du qD) f2 (by unfold maxLen;omega) (by have:(sl.n+1)*bt≤100001*1000:=Nat.mul_le_mul (by omega) qe;omega) (by omega) ?_
  intro v' w' h1 h2 h3
  exact ⟨v',rfl,Ph.app hr aZ h2 h1 h3⟩
 ·intro tm w y bR bW cZ hy bA
  have hB:=ca 3 y w bA
  obtain ⟨a,s',x,w2,hr,h1,h2,h3,h4⟩:=id bA
  obtain ⟨ya,yn,yc,rfl⟩:=aL h3
  refine dv rfl rfl _ (.tmp 8) (.tmp 7) rfl (cZ 6 (by omega) (by omega)) hy (Ok w (hB.row hi) (hB.frozen _)) ?_
  go_end0
  exact Ph.last hN iq hi bA
theorem bK {w:World}{bs e z n:Nat}{v:Value}{xs:List Value} (h:w.ownsRow bs e z v n xs):∃a c,v=.slice a n c:=by
 rcases h.2 with ⟨rfl,h0⟩|⟨g,c,_,rfl,_⟩
 ·exact ⟨_,_,by rw[h0]⟩
 ·exact ⟨_,_,rfl⟩
theorem Ik (w:World) {p:Nat}{l h:Int}{m:Bool} (h0:w.cell? ⟨p,0,none⟩=some (.int .i64 l)) (h1:w.cell? ⟨p,1,none⟩=some (.int .i64 h)) (h2:w.cell? ⟨p,2,none⟩=some (.bool m)):(Instr.loadAt 196 (.pointer (some ⟨p,0,none⟩))).run Tryz.prog w=.ok (.agg #[.int .i64 l,.int .i64 h,.bool m]) w:=by
 go_simp
theorem DU {α:Type}{lo b g:Nat}{nm:ByteArray}{ss:List Slot}{N:(Nat→Prop)→World→Prop}{V W w0:World}{s:aI}{sl:Slot}{r:Except (Int×Int) (α×aI)}{N1:α→Value→(Nat→Prop)→World→Prop}{pm pr bt:Nat}{so:Slot} (ho:ss[1]?=some so) (h:Ap lo b g 64 nm ss N V W s w0) (hN:aK N) (iq:∀a x,aK (N1 a x)) (hi:ss[0]?=some sl) (dR:Fit 61 sl bt N1) (hn:sl.n≤100000)
  (cn:∀P w,N P w→∀c ∈ ([(pm,#[.pointer (some ⟨g,0,none⟩)],167),(pr,#[.pointer (some ⟨b,0,none⟩)],107)]:List (Nat×Array Value×TypeId)),aP c.1 c.2.1 c.2.2 P w) (cD:∀w,Ap lo b g 64 nm ss N V W s w→Calls Tryz.prog 126 #[.pointer (some ⟨b,0,none⟩),.int .i64 (so.n:Int)] w (CR lo b N1 w r)) :
  Calls Tryz.prog 173 #[.pointer (some ⟨pm,0,none⟩),.pointer (some ⟨pr,0,none⟩)] w0 (CP lo b g 64 nm ss N V W 0 sl r N1):=by
 obtain ⟨va,vn,vc,hv⟩:=aL (h.bx.own 0 sl hi)
 obtain ⟨ei,kT,mG,qe,fx⟩:=dR
 have ca:=Ph.base (lo:=lo) (b:=b) (g:=g) (T:=64) (nm:=nm) (V:=V) (W:=W) (s:=s) (r:=r) (N1:=N1) cn hi
 have hd:=h.up hN (zE w0.heap.size w0).drew
 go_enter Tryz.func173,Tryz.ntmps173
 obtain ⟨oa,oc,hvo⟩:=bK (h.bx.own 1 so ho)
 refine cN (z:=16) (N:=18) (c:=11) (by kernel_rfl) (fun k=>k+2) (fun k=>[.pointer (some ⟨g,0,none⟩),.pointer (some ⟨g,0,none⟩),.pointer (some ⟨g,0,none⟩),.pointer (some ⟨g,1,none⟩),sl.v,.pointer (some ⟨b,0,none⟩),.pointer (some ⟨g,0,none⟩),.pointer (some ⟨g,0,none⟩),.pointer (some ⟨g,2,none⟩),so.v,.int .i64 (so.n:Int),undef,undef,undef,.pointer (some ⟨g,0,none⟩),.pointer (some ⟨g,1,none⟩)].getD k undef) (Ph lo b g 64 nm ss N V W s sl r N1) _ w0 rfl rfl (fun i j _ _ e=>by omega) (fun i hi=>by omega) (by kernel_rfl) (by omega) (by kernel_rfl) (by kernel_rfl) (by kernel_rfl) hd ?_ ?_ ?_ ?_ ?_
 ·intro k tm w hk hq bR bW aV bA
  obtain ⟨ph,x,bA⟩:=bA
  have hB:=ca ph x w bA
  match k,hk with
  |0,_=>exact aS rfl rfl _ (.tmp 0) rfl (bW 0 (by intro i hi;omega)) (cz w (hB.cell (List.mem_cons_self ..) rfl)) ⟨rfl,rfl⟩
  |1,_=>exact aS rfl rfl _ (.tmp 0) rfl (bW 0 (by intro i hi;omega)) (cz w (hB.cell (List.mem_cons_self ..) rfl)) ⟨rfl,rfl⟩
  |2,_=>exact aY rfl rfl (.tmp 3) rfl (aV 1 (by omega) (by kernel_rfl)) ⟨rfl,rfl⟩
  |3,_=>exact bI rfl rfl _ (.tmp 4) _ rfl (aV 2 (by omega) (by kernel_rfl)) (iz w) ⟨rfl,rfl⟩
  |4,_=>exact aS rfl rfl _ (.tmp 5) rfl (aV 3 (by omega) (by kernel_rfl)) (by rw[hv];exact pw w (by rw[←hv];exact hB.row hi)) ⟨rfl,rfl⟩
  |5,_=>exact aS rfl rfl _ (.tmp 1) rfl (bW 1 (by intro i hi;omega)) (cJ w (hB.cell (zF _ (List.mem_cons_self ..)) rfl)) ⟨rfl,rfl⟩
  |6,_=>exact aS rfl rfl _ (.tmp 0) rfl (bW 0 (by intro i hi;omega)) (cz w (hB.cell (List.mem_cons_self ..) rfl)) ⟨rfl,rfl⟩
  |7,_=>exact aY rfl rfl (.tmp 8) rfl (aV 6 (by omega) (by kernel_rfl)) ⟨rfl,rfl⟩
  |8,_=>exact bI rfl rfl _ (.tmp 9) _ rfl (aV 7 (by omega) (by kernel_rfl)) (Ay w) ⟨rfl,rfl⟩
  |9,_=>exact aS rfl rfl _ (.tmp 10) rfl (aV 8 (by omega) (by kernel_rfl)) (by rw[hvo];exact tU w (by rw[←hvo];exact hB.row ho)) ⟨rfl,rfl⟩
  |10,_=>exact DT rfl rfl (.tmp 11) 22 9 rfl Tryz.underlying22 ((aV 9 (by omega) (by kernel_rfl)).trans hvo) ⟨rfl,rfl⟩
  |11,_=>omega
  |12,_=>omega
  |13,_=>omega
  |14,_=>exact aY rfl rfl (.tmp 2) rfl (aV 0 (by omega) (by kernel_rfl)) ⟨rfl,rfl⟩
  |15,_=>exact bI rfl rfl _ (.tmp 16) _ rfl (aV 14 (by omega) (by kernel_rfl)) (iz w) ⟨rfl,rfl⟩
  |k+16,h=>omega
 ·intro tm w bR bW aV bA
  have aZ:Ap lo b g 64 nm ss N V W s w:=bA
  refine b9 rfl rfl 126 (yV w) _ _ rfl #[.pointer (some ⟨b,0,none⟩),.int .i64 (so.n:Int)] ?_ (cD w aZ) ?_
  ·simp only[List.map_toArray,List.map_cons,List.map_nil,Act.eval]
   rw[show tm.getD 7 undef=_ from aV 5 (by omega) (by kernel_rfl),show tm.getD 12 undef=_ from aV 10 (by omega) (by kernel_rfl)]
   rfl
  ·intro e w' jD
   rcases Ph.call hN iq bA jD with ⟨x,rfl,h1⟩|⟨y,hr,rfl,hs⟩
   ·exact .inl ⟨x,rfl,x,rfl,h1⟩
   ·exact .inr ⟨_,rfl,rfl,by unfold CP;rw[hr];exact ⟨rfl,hs⟩⟩
 ·intro tm w x bR hx bA
  obtain ⟨a,s',hr,ep,aZ⟩:=id bA
  obtain ⟨f1,f2,f3⟩:=fx a x _ _ ep
  exact jt rfl rfl _ _ _ rfl #[(0,x)] (by simp only[List.map_toArray,List.map_cons,List.map_nil,Act.eval];rw[show tm.getD 13 undef=x from hx]) (f3 w) ⟨_,rfl,Ph.bs hN iq bA⟩
 ·intro tm w y bR aV hy bA
  obtain ⟨a,s',x,gy,hr,rfl,qD,ep,aZ⟩:=id bA
  obtain ⟨f1,f2,f3⟩:=fx a x _ _ ep
  have hl:=aZ.bx.lt
  refine bT w rfl rfl (.tmp 6) (.tmp 14) 61 rfl (g+1) sl.t sl.sz bt kT ei mG sl.v sl.n sl.xs (aV 4 (by omega) (by kernel_rfl)) (aZ.bx.own 0 sl hi) ⟨gy,0,none⟩ 1 1 x.cells.toList hy (by rw[Array.length_toList,f1];omega) (du qD) f2 (by unfold maxLen;omega) (by have:(sl.n+1)*bt≤100001*1000:=Nat.mul_le_mul (by omega) qe;omega) (by omega) ?_
  intro v' w' h1 h2 h3
  exact ⟨v',rfl,Ph.app hr aZ h2 h1 h3⟩
 ·intro tm w y bR bW cZ hy bA
  have hB:=ca 3 y w bA
  obtain ⟨a,s',x,w2,hr,h1,h2,h3,h4⟩:=id bA
  obtain ⟨ya,yn,yc,rfl⟩:=aL h3
  refine dv rfl rfl _ (.tmp 17) (.tmp 15) rfl (cZ 15 (by omega) (by omega)) hy (oY w (hB.row hi) (hB.frozen _)) ?_
  go_end0
  exact Ph.last hN iq hi bA
theorem Kl {α:Type}{lo b g:Nat}{nm:ByteArray}{ss:List Slot}{N:(Nat→Prop)→World→Prop}{V W w0:World}{s:aI}{sl:Slot}{r:Except (Int×Int) (α×aI)}{N1:α→Value→(Nat→Prop)→World→Prop}{pm pr bt:Nat}{T:TypeId}{i pb:Nat}{bl bh:Int}{bm:Bool} (h:Ap lo b g T nm ss N V W s w0) (hN:aK N) (iq:∀a x,aK (N1 a x)) (hi:ss[i]?=some sl) (dR:Fit 62 sl bt N1) (hn:sl.n≤100000)
  (cn:∀P w,N P w→∀c ∈ ([(pm,#[.pointer (some ⟨g,i+1,none⟩)],197),(pr,#[.pointer (some ⟨b,0,none⟩)],107),(pb,#[.int .i64 bl,.int .i64 bh,.bool bm],196)]:List (Nat×Array Value×TypeId)),aP c.1 c.2.1 c.2.2 P w) (cD:∀w,Ap lo b g T nm ss N V W s w→Calls Tryz.prog 175 #[.pointer (some ⟨b,0,none⟩),.agg #[.int .i64 bl,.int .i64 bh,.bool bm]] w (CR lo b N1 w r)) :
  Calls Tryz.prog 174 #[.pointer (some ⟨pm,0,none⟩),.pointer (some ⟨pr,0,none⟩),.pointer (some ⟨pb,0,none⟩)] w0 (CP lo b g T nm ss N V W i sl r N1):=by
 obtain ⟨va,vn,vc,hv⟩:=aL (h.bx.own i sl hi)
 obtain ⟨ei,kT,mG,qe,fx⟩:=dR
 have ca:=Ph.base (lo:=lo) (b:=b) (g:=g) (T:=T) (nm:=nm) (V:=V) (W:=W) (s:=s) (r:=r) (N1:=N1) cn hi
 have hd:=h.up hN (zE w0.heap.size w0).drew
 go_enter Tryz.func174,Tryz.ntmps174
 refine cN (z:=10) (N:=13) (c:=6) (by kernel_rfl) (fun k=>k+3) (fun k=>[.pointer (some ⟨g,i+1,none⟩),.pointer (some ⟨g,i+1,none⟩),.pointer (some ⟨g,i+1,none⟩),sl.v,.pointer (some ⟨b,0,none⟩),.agg #[.int .i64 bl,.int .i64 bh,.bool bm],undef,undef,undef,.pointer (some ⟨g,i+1,none⟩)].getD k undef) (Ph lo b g T nm ss N V W s sl r N1) _ w0 rfl rfl (fun i j _ _ e=>by omega) (fun i hi=>by omega) (by kernel_rfl) (by omega) (by kernel_rfl) (by kernel_rfl) (by kernel_rfl) hd ?_ ?_ ?_ ?_ ?_
 ·intro k tm w hk hq bR bW aV bA
  obtain ⟨ph,x,bA⟩:=bA
  have hB:=ca ph x w bA
  match k,hk with
  |0,_=>exact aS rfl rfl _ (.tmp 0) rfl (bW 0 (by intro i hi;omega)) (pt w (hB.cell (List.mem_cons_self ..) rfl)) ⟨rfl,rfl⟩
  |1,_=>exact aS rfl rfl _ (.tmp 0) rfl (bW 0 (by intro i hi;omega)) (pt w (hB.cell (List.mem_cons_self ..) rfl)) ⟨rfl,rfl⟩
  |2,_=>exact aY rfl rfl (.tmp 4) rfl (aV 1 (by omega) (by kernel_rfl)) ⟨rfl,rfl⟩
  |3,_=>exact aS rfl rfl _ (.tmp 5) rfl (aV 2 (by omega) (by kernel_rfl)) (by rw[hv];exact Ij w (by rw[←hv];exact hB.row hi)) ⟨rfl,rfl⟩
  |4,_=>exact aS rfl rfl _ (.tmp 1) rfl (bW 1 (by intro i hi;omega)) (cJ w (hB.cell (zF _ (List.mem_cons_self ..)) rfl)) ⟨rfl,rfl⟩
  |5,_=>exact aS rfl rfl _ (.tmp 2) rfl (bW 2 (by intro i hi;omega)) (Ik w (hB.cell (j:=0) (zF _ (zF _ (List.mem_cons_self ..))) rfl) (hB.cell (j:=1) (zF _ (zF _ (List.mem_cons_self ..))) rfl) (hB.cell (j:=2) (zF _ (zF _ (List.mem_cons_self ..))) rfl)) ⟨rfl,rfl⟩
  |6,_=>omega
  |7,_=>omega
  |8,_=>omega
  |9,_=>exact aY rfl rfl (.tmp 3) rfl (aV 0 (by omega) (by kernel_rfl)) ⟨rfl,rfl⟩
 ·intro tm w bR bW aV bA
  have aZ:Ap lo b g T nm ss N V W s w:=bA
  refine b9 rfl rfl 175 (PN w) _ _ rfl #[.pointer (some ⟨b,0,none⟩),.agg #[.int .i64 bl,.int .i64 bh,.bool bm]] ?_ (cD w aZ) ?_
  ·simp only[List.map_toArray,List.map_cons,List.map_nil,Act.eval]
   rw[show tm.getD 7 undef=_ from aV 4 (by omega) (by kernel_rfl),show tm.getD 8 undef=_ from aV 5 (by omega) (by kernel_rfl)]
   rfl
  ·intro e w' jD
   rcases Ph.call hN iq bA jD with ⟨x,rfl,h1⟩|⟨y,hr,rfl,hs⟩
   ·exact .inl ⟨x,rfl,x,rfl,h1⟩
   ·exact .inr ⟨_,rfl,rfl,by unfold CP;rw[hr];exact ⟨rfl,hs⟩⟩
 ·intro tm w x bR hx bA
  obtain ⟨a,s',hr,ep,aZ⟩:=id bA
  obtain ⟨f1,f2,f3⟩:=fx a x _ _ ep
  exact jt rfl rfl _ _ _ rfl #[(0,x)] (by simp only[List.map_toArray,List.map_cons,List.map_nil,Act.eval];rw[show tm.getD 9 undef=x from hx]) (f3 w) ⟨_,rfl,Ph.bs hN iq bA⟩
 ·intro tm w y bR aV hy bA
  obtain ⟨a,s',x,gy,hr,rfl,qD,ep,aZ⟩:=id bA
  obtain ⟨f1,f2,f3⟩:=fx a x _ _ ep
  have hl:=aZ.bx.lt
  refine bT w rfl rfl (.tmp 6) (.tmp 10) 62 rfl (g+1) sl.t sl.sz bt kT ei mG sl.v sl.n sl.xs (aV 3 (by omega) (by kernel_rfl)) (aZ.bx.own i sl hi) ⟨gy,0,none⟩ 1 1 x.cells.toList hy (by rw[Array.length_toList,f1];omega) (du qD) f2 (by unfold maxLen;omega) (by have:(sl.n+1)*bt≤100001*1000:=Nat.mul_le_mul (by omega) qe;omega) (by omega) ?_
  intro v' w' h1 h2 h3
  exact ⟨v',rfl,Ph.app hr aZ h2 h1 h3⟩
 ·intro tm w y bR bW cZ hy bA
  have hB:=ca 3 y w bA
  obtain ⟨a,s',x,w2,hr,h1,h2,h3,h4⟩:=id bA
  obtain ⟨ya,yn,yc,rfl⟩:=aL h3
  refine dv rfl rfl _ (.tmp 12) (.tmp 11) rfl (cZ 9 (by omega) (by omega)) hy (GW w (hB.row hi) (hB.frozen _)) ?_
  go_end0
  exact Ph.last hN iq hi bA
theorem Kk {α:Type}{lo b g:Nat}{nm:ByteArray}{ss:List Slot}{N:(Nat→Prop)→World→Prop}{V W w0:World}{s:aI}{sl:Slot}{r:Except (Int×Int) (α×aI)}{N1:α→Value→(Nat→Prop)→World→Prop}{pm pr bt:Nat}{T:TypeId}{i:Nat} (h:Ap lo b g T nm ss N V W s w0) (hN:aK N) (iq:∀a x,aK (N1 a x)) (hi:ss[i]?=some sl) (dR:Fit 22 sl bt N1) (hn:sl.n≤100000)
  (cn:∀P w,N P w→∀c ∈ ([(pm,#[.pointer (some ⟨g,i+1,none⟩)],198),(pr,#[.pointer (some ⟨b,0,none⟩)],107)]:List (Nat×Array Value×TypeId)),aP c.1 c.2.1 c.2.2 P w) (cD:∀w,Ap lo b g T nm ss N V W s w→Calls Tryz.prog 177 #[.pointer (some ⟨b,0,none⟩)] w (CR lo b N1 w r)) :
  Calls Tryz.prog 176 #[.pointer (some ⟨pm,0,none⟩),.pointer (some ⟨pr,0,none⟩)] w0 (CP lo b g T nm ss N V W i sl r N1):=by
 obtain ⟨va,vn,vc,hv⟩:=aL (h.bx.own i sl hi)
 obtain ⟨ei,kT,mG,qe,fx⟩:=dR
 have ca:=Ph.base (lo:=lo) (b:=b) (g:=g) (T:=T) (nm:=nm) (V:=V) (W:=W) (s:=s) (r:=r) (N1:=N1) cn hi
 have hd:=h.up hN (zE w0.heap.size w0).drew
 go_enter Tryz.func176,Tryz.ntmps176
 refine cN (z:=9) (N:=11) (c:=5) (by kernel_rfl) (fun k=>k+2) (fun k=>[.pointer (some ⟨g,i+1,none⟩),.pointer (some ⟨g,i+1,none⟩),.pointer (some ⟨g,i+1,none⟩),sl.v,.pointer (some ⟨b,0,none⟩),undef,undef,undef,.pointer (some ⟨g,i+1,none⟩)].getD k undef) (Ph lo b g T nm ss N V W s sl r N1) _ w0 rfl rfl (fun i j _ _ e=>by omega) (fun i hi=>by omega) (by kernel_rfl) (by omega) (by kernel_rfl) (by kernel_rfl) (by kernel_rfl) hd ?_ ?_ ?_ ?_ ?_
 ·intro k tm w hk hq bR bW aV bA
  obtain ⟨ph,x,bA⟩:=bA
  have hB:=ca ph x w bA
  match k,hk with
  |0,_=>exact aS rfl rfl _ (.tmp 0) rfl (bW 0 (by intro i hi;omega)) (vO w (hB.cell (List.mem_cons_self ..) rfl)) ⟨rfl,rfl⟩
  |1,_=>exact aS rfl rfl _ (.tmp 0) rfl (bW 0 (by intro i hi;omega)) (vO w (hB.cell (List.mem_cons_self ..) rfl)) ⟨rfl,rfl⟩
  |2,_=>exact aY rfl rfl (.tmp 3) rfl (aV 1 (by omega) (by kernel_rfl)) ⟨rfl,rfl⟩
  |3,_=>exact aS rfl rfl _ (.tmp 4) rfl (aV 2 (by omega) (by kernel_rfl)) (by rw[hv];exact tU w (by rw[←hv];exact hB.row hi)) ⟨rfl,rfl⟩
  |4,_=>exact aS rfl rfl _ (.tmp 1) rfl (bW 1 (by intro i hi;omega)) (cJ w (hB.cell (zF _ (List.mem_cons_self ..)) rfl)) ⟨rfl,rfl⟩
  |5,_=>omega
  |6,_=>omega
  |7,_=>omega
  |8,_=>exact aY rfl rfl (.tmp 2) rfl (aV 0 (by omega) (by kernel_rfl)) ⟨rfl,rfl⟩
 ·intro tm w bR bW aV bA
  have aZ:Ap lo b g T nm ss N V W s w:=bA
  refine b9 rfl rfl 177 (AM w) _ _ rfl #[.pointer (some ⟨b,0,none⟩)] ?_ (cD w aZ) ?_
  ·simp only[List.map_toArray,List.map_cons,List.map_nil,Act.eval]
   rw[show tm.getD 6 undef=_ from aV 4 (by omega) (by kernel_rfl)]
   rfl
  ·intro e w' jD
   rcases Ph.call hN iq bA jD with ⟨x,rfl,h1⟩|⟨y,hr,rfl,hs⟩
   ·exact .inl ⟨x,rfl,x,rfl,h1⟩
   ·exact .inr ⟨_,rfl,rfl,by unfold CP;rw[hr];exact ⟨rfl,hs⟩⟩
 ·intro tm w x bR hx bA
  obtain ⟨a,s',hr,ep,aZ⟩:=id bA
  obtain ⟨f1,f2,f3⟩:=fx a x _ _ ep
  exact jt rfl rfl _ _ _ rfl #[(0,x)] (by simp only[List.map_toArray,List.map_cons,List.map_nil,Act.eval];rw[show tm.getD 7 undef=x from hx]) (f3 w) ⟨_,rfl,Ph.bs hN iq bA⟩
 ·intro tm w y bR aV hy bA
  obtain ⟨a,s',x,gy,hr,rfl,qD,ep,aZ⟩:=id bA
  obtain ⟨f1,f2,f3⟩:=fx a x _ _ ep
  have hl:=aZ.bx.lt
  refine bT w rfl rfl (.tmp 5) (.tmp 8) 22 rfl (g+1) sl.t sl.sz bt kT ei mG sl.v sl.n sl.xs (aV 3 (by omega) (by kernel_rfl)) (aZ.bx.own i sl hi) ⟨gy,0,none⟩ 1 1 x.cells.toList hy (by rw[Array.length_toList,f1];omega) (du qD) f2 (by unfold maxLen;omega) (by have:(sl.n+1)*bt≤100001*1000:=Nat.mul_le_mul (by omega) qe;omega) (by omega) ?_
  intro v' w' h1 h2 h3
  exact ⟨v',rfl,Ph.app hr aZ h2 h1 h3⟩
 ·intro tm w y bR bW cZ hy bA
  have hB:=ca 3 y w bA
  obtain ⟨a,s',x,w2,hr,h1,h2,h3,h4⟩:=id bA
  obtain ⟨ya,yn,yc,rfl⟩:=aL h3
  refine dv rfl rfl _ (.tmp 10) (.tmp 9) rfl (cZ 8 (by omega) (by omega)) hy (zp w (hB.row hi) (hB.frozen _)) ?_
  go_end0
  exact Ph.last hN iq hi bA
end Go.Proofs.YtmlphohdcejniaaGreatDoor

import Derived.Test.YtmlphohdcejniaaGreatDoorPbF
set_option maxHeartbeats 4000000
set_option maxRecDepth 100000
namespace Go.Proofs.YtmlphohdcejniaaGreatDoor
open Go.RowKit
attribute [local go_sem ↓] Go.wp_at_zero Go.wp_at_succ
theorem MH {α:Type}{lo b g:Nat}{nm:ByteArray}{ss:List Slot}{N:(Nat→Prop)→World→Prop}{V W w0:World}{s:aD}{sl:Slot}{r:Except (Int×Int) (α×aD)}{N1:α→Value→(Nat→Prop)→World→Prop}{pm pr bt:Nat} (h:Ap lo b g 64 nm ss N V W s w0) (hN:aK N) (iS:∀a x,aK (N1 a x)) (hi:ss[0]?=some sl) (du:Fit 61 sl bt N1) (hn:sl.n≤100000)
  (cB:∀P w,N P w→∀c ∈ ([(pm,#[.pointer (some ⟨g,0,none⟩)],167),(pr,#[.pointer (some ⟨b,0,none⟩)],107)]:List (Nat×Array Value×TypeId)),aP c.1 c.2.1 c.2.2 P w) (cQ:∀w,Ap lo b g 64 nm ss N V W s w→Calls Tryz.prog 158 #[.pointer (some ⟨b,0,none⟩),.int .i64 2] w (CR lo b N1 w r)) :
  Calls Tryz.prog 157 #[.pointer (some ⟨pm,0,none⟩),.pointer (some ⟨pr,0,none⟩)] w0 (CP lo b g 64 nm ss N V W 0 sl r N1):=by
 obtain ⟨va,vn,vc,hv⟩:=aL (h.bx.own 0 sl hi)
 obtain ⟨ei,lO,nv,rm,fx⟩:=du
 have cq:=Ph.base (lo:=lo) (b:=b) (g:=g) (T:=64) (nm:=nm) (V:=V) (W:=W) (s:=s) (r:=r) (N1:=N1) cB hi
 have hd:=h.up hN (zE w0.heap.size w0).drew
 go_enter Tryz.func157,Tryz.ntmps157
 refine cY (z:=11) (N:=13) (c:=6) (by kernel_rfl) (fun k=>k+2) (fun k=>[.pointer (some ⟨g,0,none⟩),.pointer (some ⟨g,0,none⟩),.pointer (some ⟨g,0,none⟩),.pointer (some ⟨g,1,none⟩),sl.v,.pointer (some ⟨b,0,none⟩),undef,undef,undef,.pointer (some ⟨g,0,none⟩),.pointer (some ⟨g,1,none⟩)].getD k undef) (Ph lo b g 64 nm ss N V W s sl r N1) _ w0 rfl rfl (fun i j _ _ e=>by omega) (fun i hi=>by omega) (by kernel_rfl) (by omega) (by kernel_rfl) (by kernel_rfl) (by kernel_rfl) hd ?_ ?_ ?_ ?_ ?_
 ·intro k tm w hk hq bU b9 aW bC
  obtain ⟨ph,x,bC⟩:=bC
  have hB:=cq ph x w bC
  match k,hk with
  |0,_=>exact aT rfl rfl _ (.tmp 0) rfl (b9 0 (by intro i hi;omega)) (cD w (hB.cell (List.mem_cons_self ..) rfl)) ⟨rfl,rfl⟩
  |1,_=>exact aT rfl rfl _ (.tmp 0) rfl (b9 0 (by intro i hi;omega)) (cD w (hB.cell (List.mem_cons_self ..) rfl)) ⟨rfl,rfl⟩
  |2,_=>exact aY rfl rfl (.tmp 3) rfl (aW 1 (by omega) (by kernel_rfl)) ⟨rfl,rfl⟩
  |3,_=>exact bK rfl rfl _ (.tmp 4) _ rfl (aW 2 (by omega) (by kernel_rfl)) (ja w) ⟨rfl,rfl⟩
  |4,_=>exact aT rfl rfl _ (.tmp 5) rfl (aW 3 (by omega) (by kernel_rfl)) (by rw[hv];exact qt w (by rw[←hv];exact hB.row hi)) ⟨rfl,rfl⟩
  |5,_=>exact aT rfl rfl _ (.tmp 1) rfl (b9 1 (by intro i hi;omega)) (cV w (hB.cell (zF _ (List.mem_cons_self ..)) rfl)) ⟨rfl,rfl⟩
  |6,_=>omega
  |7,_=>omega
  |8,_=>omega
  |9,_=>exact aY rfl rfl (.tmp 2) rfl (aW 0 (by omega) (by kernel_rfl)) ⟨rfl,rfl⟩
  |10,_=>exact bK rfl rfl _ (.tmp 11) _ rfl (aW 9 (by omega) (by kernel_rfl)) (ja w) ⟨rfl,rfl⟩
 ·intro tm w bU b9 aW bC
  have aZ:Ap lo b g 64 nm ss N V W s w:=bC
  refine cn rfl rfl 158 (qN w) _ _ rfl #[.pointer (some ⟨b,0,none⟩),.int .i64 2] ?_ (cQ w aZ) ?_
  ·simp only[List.map_toArray,List.map_cons,List.map_nil,Act.eval]
   rw[show tm.getD 7 undef=_ from aW 5 (by omega) (by kernel_rfl)]
   rfl
  ·intro e w' j7
   rcases Ph.call hN iS bC j7 with ⟨x,rfl,h1⟩|⟨y,hr,rfl,hs⟩
   ·exact .inl ⟨x,rfl,x,rfl,h1⟩
   ·exact .inr ⟨_,rfl,rfl,by unfold CP;rw[hr];exact ⟨rfl,hs⟩⟩
 ·intro tm w x bU hx bC
  obtain ⟨a,s',hr,eT,aZ⟩:=id bC
  obtain ⟨f1,f2,f3⟩:=fx a x _ _ eT
  exact jQ rfl rfl _ _ _ rfl #[(0,x)] (by simp only[List.map_toArray,List.map_cons,List.map_nil,Act.eval];rw[show tm.getD 8 undef=x from hx]) (f3 w) ⟨_,rfl,Ph.bs hN iS bC⟩
 ·intro tm w y bU aW hy bC
  obtain ⟨a,s',x,gy,hr,rfl,rV,eT,aZ⟩:=id bC
  obtain ⟨f1,f2,f3⟩:=fx a x _ _ eT
  have hl:=aZ.bx.lt
  refine bX w rfl rfl (.tmp 6) (.tmp 9) 61 rfl (g+1) sl.t sl.sz bt lO ei nv sl.v sl.n sl.xs (aW 4 (by omega) (by kernel_rfl)) (aZ.bx.own 0 sl hi) ⟨gy,0,none⟩ 1 1 x.cells.toList hy (by rw[Array.length_toList,f1];omega) (dL rV) f2 (by unfold maxLen;omega) (by have:(sl.n+1)*bt≤100001*1000:=Nat.mul_le_mul (by omega) rm;omega) (by omega) ?_
  intro v' w' h1 h2 h3
  exact ⟨v',rfl,Ph.app hr aZ h2 h1 h3⟩
 ·intro tm w y bU b9 dt hy bC
  have hB:=cq 3 y w bC
  obtain ⟨a,s',x,w2,hr,h1,h2,h3,h4⟩:=id bC
  obtain ⟨ya,yn,yc,rfl⟩:=aL h3
  refine dM rfl rfl _ (.tmp 12) (.tmp 10) rfl (dt 10 (by omega) (by omega)) hy (qg w (hB.row hi) (hB.frozen _)) ?_
  go_end0
  exact Ph.last hN iS hi bC
theorem MG {α:Type}{lo b g:Nat}{nm:ByteArray}{ss:List Slot}{N:(Nat→Prop)→World→Prop}{V W w0:World}{s:aD}{sl:Slot}{r:Except (Int×Int) (α×aD)}{N1:α→Value→(Nat→Prop)→World→Prop}{pm pr bt:Nat} (h:Ap lo b g 64 nm ss N V W s w0) (hN:aK N) (iS:∀a x,aK (N1 a x)) (hi:ss[0]?=some sl) (du:Fit 61 sl bt N1) (hn:sl.n≤100000)
  (cB:∀P w,N P w→∀c ∈ ([(pm,#[.pointer (some ⟨g,0,none⟩)],167),(pr,#[.pointer (some ⟨b,0,none⟩)],107)]:List (Nat×Array Value×TypeId)),aP c.1 c.2.1 c.2.2 P w) (cQ:∀w,Ap lo b g 64 nm ss N V W s w→Calls Tryz.prog 158 #[.pointer (some ⟨b,0,none⟩),.int .i64 3] w (CR lo b N1 w r)) :
  Calls Tryz.prog 159 #[.pointer (some ⟨pm,0,none⟩),.pointer (some ⟨pr,0,none⟩)] w0 (CP lo b g 64 nm ss N V W 0 sl r N1):=by
 obtain ⟨va,vn,vc,hv⟩:=aL (h.bx.own 0 sl hi)
 obtain ⟨ei,lO,nv,rm,fx⟩:=du
 have cq:=Ph.base (lo:=lo) (b:=b) (g:=g) (T:=64) (nm:=nm) (V:=V) (W:=W) (s:=s) (r:=r) (N1:=N1) cB hi
 have hd:=h.up hN (zE w0.heap.size w0).drew
 go_enter Tryz.func159,Tryz.ntmps159
 refine cY (z:=11) (N:=13) (c:=6) (by kernel_rfl) (fun k=>k+2) (fun k=>[.pointer (some ⟨g,0,none⟩),.pointer (some ⟨g,0,none⟩),.pointer (some ⟨g,0,none⟩),.pointer (some ⟨g,1,none⟩),sl.v,.pointer (some ⟨b,0,none⟩),undef,undef,undef,.pointer (some ⟨g,0,none⟩),.pointer (some ⟨g,1,none⟩)].getD k undef) (Ph lo b g 64 nm ss N V W s sl r N1) _ w0 rfl rfl (fun i j _ _ e=>by omega) (fun i hi=>by omega) (by kernel_rfl) (by omega) (by kernel_rfl) (by kernel_rfl) (by kernel_rfl) hd ?_ ?_ ?_ ?_ ?_
 ·intro k tm w hk hq bU b9 aW bC
  obtain ⟨ph,x,bC⟩:=bC
  have hB:=cq ph x w bC
  match k,hk with
  |0,_=>exact aT rfl rfl _ (.tmp 0) rfl (b9 0 (by intro i hi;omega)) (cD w (hB.cell (List.mem_cons_self ..) rfl)) ⟨rfl,rfl⟩
  |1,_=>exact aT rfl rfl _ (.tmp 0) rfl (b9 0 (by intro i hi;omega)) (cD w (hB.cell (List.mem_cons_self ..) rfl)) ⟨rfl,rfl⟩
  |2,_=>exact aY rfl rfl (.tmp 3) rfl (aW 1 (by omega) (by kernel_rfl)) ⟨rfl,rfl⟩
  |3,_=>exact bK rfl rfl _ (.tmp 4) _ rfl (aW 2 (by omega) (by kernel_rfl)) (ja w) ⟨rfl,rfl⟩
  |4,_=>exact aT rfl rfl _ (.tmp 5) rfl (aW 3 (by omega) (by kernel_rfl)) (by rw[hv];exact qt w (by rw[←hv];exact hB.row hi)) ⟨rfl,rfl⟩
  |5,_=>exact aT rfl rfl _ (.tmp 1) rfl (b9 1 (by intro i hi;omega)) (cV w (hB.cell (zF _ (List.mem_cons_self ..)) rfl)) ⟨rfl,rfl⟩
  |6,_=>omega
  |7,_=>omega
  |8,_=>omega
  |9,_=>exact aY rfl rfl (.tmp 2) rfl (aW 0 (by omega) (by kernel_rfl)) ⟨rfl,rfl⟩
  |10,_=>exact bK rfl rfl _ (.tmp 11) _ rfl (aW 9 (by omega) (by kernel_rfl)) (ja w) ⟨rfl,rfl⟩
 ·intro tm w bU b9 aW bC
  have aZ:Ap lo b g 64 nm ss N V W s w:=bC
  refine cn rfl rfl 158 (qN w) _ _ rfl #[.pointer (some ⟨b,0,none⟩),.int .i64 3] ?_ (cQ w aZ) ?_
  ·simp only[List.map_toArray,List.map_cons,List.map_nil,Act.eval]
   rw[show tm.getD 7 undef=_ from aW 5 (by omega) (by kernel_rfl)]
   rfl
  ·intro e w' j7
   rcases Ph.call hN iS bC j7 with ⟨x,rfl,h1⟩|⟨y,hr,rfl,hs⟩
   ·exact .inl ⟨x,rfl,x,rfl,h1⟩
   ·exact .inr ⟨_,rfl,rfl,by unfold CP;rw[hr];exact ⟨rfl,hs⟩⟩
 ·intro tm w x bU hx bC
  obtain ⟨a,s',hr,eT,aZ⟩:=id bC
  obtain ⟨f1,f2,f3⟩:=fx a x _ _ eT
  exact jQ rfl rfl _ _ _ rfl #[(0,x)] (by simp only[List.map_toArray,List.map_cons,List.map_nil,Act.eval];rw[show tm.getD 8 undef=x from hx]) (f3 w) ⟨_,rfl,Ph.bs hN iS bC⟩
 ·intro tm w y bU aW hy bC
  obtain ⟨a,s',x,gy,hr,rfl,rV,eT,aZ⟩:=id bC
  obtain ⟨f1,f2,f3⟩:=fx a x _ _ eT
  have hl:=aZ.bx.lt
  refine bX w rfl rfl (.tmp 6) (.tmp 9) 61 rfl (g+1) sl.t sl.sz bt lO ei nv sl.v sl.n sl.xs (aW 4 (by omega) (by kernel_rfl)) (aZ.bx.own 0 sl hi) ⟨gy,0,none⟩ 1 1 x.cells.toList hy (by rw[Array.length_toList,f1];omega) (dL rV) f2 (by unfold maxLen;omega) (by have:(sl.n+1)*bt≤100001*1000:=Nat.mul_le_mul (by omega) rm;omega) (by omega) ?_
  intro v' w' h1 h2 h3
  exact ⟨v',rfl,Ph.app hr aZ h2 h1 h3⟩
 ·intro tm w y bU b9 dt hy bC
  have hB:=cq 3 y w bC
  obtain ⟨a,s',x,w2,hr,h1,h2,h3,h4⟩:=id bC
  obtain ⟨ya,yn,yc,rfl⟩:=aL h3
  refine dM rfl rfl _ (.tmp 12) (.tmp 10) rfl (dt 10 (by omega) (by omega)) hy (qg w (hB.row hi) (hB.frozen _)) ?_
  go_end0
  exact Ph.last hN iS hi bC
theorem MF {α:Type}{lo b g:Nat}{nm:ByteArray}{ss:List Slot}{N:(Nat→Prop)→World→Prop}{V W w0:World}{s:aD}{sl:Slot}{r:Except (Int×Int) (α×aD)}{N1:α→Value→(Nat→Prop)→World→Prop}{pm pr bt:Nat} (h:Ap lo b g 64 nm ss N V W s w0) (hN:aK N) (iS:∀a x,aK (N1 a x)) (hi:ss[0]?=some sl) (du:Fit 61 sl bt N1) (hn:sl.n≤100000)
  (cB:∀P w,N P w→∀c ∈ ([(pm,#[.pointer (some ⟨g,0,none⟩)],167),(pr,#[.pointer (some ⟨b,0,none⟩)],107)]:List (Nat×Array Value×TypeId)),aP c.1 c.2.1 c.2.2 P w) (cQ:∀w,Ap lo b g 64 nm ss N V W s w→Calls Tryz.prog 161 #[.pointer (some ⟨b,0,none⟩)] w (CR lo b N1 w r)) :
  Calls Tryz.prog 160 #[.pointer (some ⟨pm,0,none⟩),.pointer (some ⟨pr,0,none⟩)] w0 (CP lo b g 64 nm ss N V W 0 sl r N1):=by
 obtain ⟨va,vn,vc,hv⟩:=aL (h.bx.own 0 sl hi)
 obtain ⟨ei,lO,nv,rm,fx⟩:=du
 have cq:=Ph.base (lo:=lo) (b:=b) (g:=g) (T:=64) (nm:=nm) (V:=V) (W:=W) (s:=s) (r:=r) (N1:=N1) cB hi
 have hd:=h.up hN (zE w0.heap.size w0).drew
 go_enter Tryz.func160,Tryz.ntmps160
 refine cY (z:=11) (N:=13) (c:=6) (by kernel_rfl) (fun k=>k+2) (fun k=>[.pointer (some ⟨g,0,none⟩),.pointer (some ⟨g,0,none⟩),.pointer (some ⟨g,0,none⟩),.pointer (some ⟨g,1,none⟩),sl.v,.pointer (some ⟨b,0,none⟩),undef,undef,undef,.pointer (some ⟨g,0,none⟩),.pointer (some ⟨g,1,none⟩)].getD k undef) (Ph lo b g 64 nm ss N V W s sl r N1) _ w0 rfl rfl (fun i j _ _ e=>by omega) (fun i hi=>by omega) (by kernel_rfl) (by omega) (by kernel_rfl) (by kernel_rfl) (by kernel_rfl) hd ?_ ?_ ?_ ?_ ?_
 ·intro k tm w hk hq bU b9 aW bC
  obtain ⟨ph,x,bC⟩:=bC
  have hB:=cq ph x w bC
  match k,hk with
  |0,_=>exact aT rfl rfl _ (.tmp 0) rfl (b9 0 (by intro i hi;omega)) (cD w (hB.cell (List.mem_cons_self ..) rfl)) ⟨rfl,rfl⟩
  |1,_=>exact aT rfl rfl _ (.tmp 0) rfl (b9 0 (by intro i hi;omega)) (cD w (hB.cell (List.mem_cons_self ..) rfl)) ⟨rfl,rfl⟩
  |2,_=>exact aY rfl rfl (.tmp 3) rfl (aW 1 (by omega) (by kernel_rfl)) ⟨rfl,rfl⟩
  |3,_=>exact bK rfl rfl _ (.tmp 4) _ rfl (aW 2 (by omega) (by kernel_rfl)) (ja w) ⟨rfl,rfl⟩
  |4,_=>exact aT rfl rfl _ (.tmp 5) rfl (aW 3 (by omega) (by kernel_rfl)) (by rw[hv];exact qt w (by rw[←hv];exact hB.row hi)) ⟨rfl,rfl⟩
  |5,_=>exact aT rfl rfl _ (.tmp 1) rfl (b9 1 (by intro i hi;omega)) (cV w (hB.cell (zF _ (List.mem_cons_self ..)) rfl)) ⟨rfl,rfl⟩
  |6,_=>omega
  |7,_=>omega
  |8,_=>omega
  |9,_=>exact aY rfl rfl (.tmp 2) rfl (aW 0 (by omega) (by kernel_rfl)) ⟨rfl,rfl⟩
  |10,_=>exact bK rfl rfl _ (.tmp 11) _ rfl (aW 9 (by omega) (by kernel_rfl)) (ja w) ⟨rfl,rfl⟩
 ·intro tm w bU b9 aW bC
  have aZ:Ap lo b g 64 nm ss N V W s w:=bC
  refine cn rfl rfl 161 (yo w) _ _ rfl #[.pointer (some ⟨b,0,none⟩)] ?_ (cQ w aZ) ?_
  ·simp only[List.map_toArray,List.map_cons,List.map_nil,Act.eval]
   rw[show tm.getD 7 undef=_ from aW 5 (by omega) (by kernel_rfl)]
   rfl
  ·intro e w' j7
   rcases Ph.call hN iS bC j7 with ⟨x,rfl,h1⟩|⟨y,hr,rfl,hs⟩
   ·exact .inl ⟨x,rfl,x,rfl,h1⟩
   ·exact .inr ⟨_,rfl,rfl,by unfold CP;rw[hr];exact ⟨rfl,hs⟩⟩
 ·intro tm w x bU hx bC
  obtain ⟨a,s',hr,eT,aZ⟩:=id bC
  obtain ⟨f1,f2,f3⟩:=fx a x _ _ eT
  exact jQ rfl rfl _ _ _ rfl #[(0,x)] (by simp only[List.map_toArray,List.map_cons,List.map_nil,Act.eval];rw[show tm.getD 8 undef=x from hx]) (f3 w) ⟨_,rfl,Ph.bs hN iS bC⟩
 ·intro tm w y bU aW hy bC
  obtain ⟨a,s',x,gy,hr,rfl,rV,eT,aZ⟩:=id bC
  obtain ⟨f1,f2,f3⟩:=fx a x _ _ eT
  have hl:=aZ.bx.lt
  refine bX w rfl rfl (.tmp 6) (.tmp 9) 61 rfl (g+1) sl.t sl.sz bt lO ei nv sl.v sl.n sl.xs (aW 4 (by omega) (by kernel_rfl)) (aZ.bx.own 0 sl hi) ⟨gy,0,none⟩ 1 1 x.cells.toList hy (by rw[Array.length_toList,f1];omega) (dL rV) f2 (by unfold maxLen;omega) (by have:(sl.n+1)*bt≤100001*1000:=Nat.mul_le_mul (by omega) rm;omega) (by omega) ?_
  intro v' w' h1 h2 h3
  exact ⟨v',rfl,Ph.app hr aZ h2 h1 h3⟩
 ·intro tm w y bU b9 dt hy bC
  have hB:=cq 3 y w bC
  obtain ⟨a,s',x,w2,hr,h1,h2,h3,h4⟩:=id bC
  obtain ⟨ya,yn,yc,rfl⟩:=aL h3
  refine dM rfl rfl _ (.tmp 12) (.tmp 10) rfl (dt 10 (by omega) (by omega)) hy (qg w (hB.row hi) (hB.frozen _)) ?_
  go_end0
  exact Ph.last hN iS hi bC
theorem MK {α:Type}{lo b g:Nat}{nm:ByteArray}{ss:List Slot}{N:(Nat→Prop)→World→Prop}{V W w0:World}{s:aD}{sl:Slot}{r:Except (Int×Int) (α×aD)}{N1:α→Value→(Nat→Prop)→World→Prop}{pm pr bt:Nat} (h:Ap lo b g 64 nm ss N V W s w0) (hN:aK N) (iS:∀a x,aK (N1 a x)) (hi:ss[3]?=some sl) (du:Fit 24 sl bt N1) (hn:sl.n≤100000)
  (cB:∀P w,N P w→∀c ∈ ([(pm,#[.pointer (some ⟨g,0,none⟩)],167),(pr,#[.pointer (some ⟨b,0,none⟩)],107)]:List (Nat×Array Value×TypeId)),aP c.1 c.2.1 c.2.2 P w) (cQ:∀w,Ap lo b g 64 nm ss N V W s w→Calls Tryz.prog 103 #[.pointer (some ⟨b,0,none⟩)] w (CR lo b N1 w r)) :
  Calls Tryz.prog 152 #[.pointer (some ⟨pm,0,none⟩),.pointer (some ⟨pr,0,none⟩)] w0 (CP lo b g 64 nm ss N V W 3 sl r N1):=by
 obtain ⟨va,vn,vc,hv⟩:=aL (h.bx.own 3 sl hi)
 obtain ⟨ei,lO,nv,rm,fx⟩:=du
 have cq:=Ph.base (lo:=lo) (b:=b) (g:=g) (T:=64) (nm:=nm) (V:=V) (W:=W) (s:=s) (r:=r) (N1:=N1) cB hi
 have hd:=h.up hN (zE w0.heap.size w0).drew
 go_enter Tryz.func152,Tryz.ntmps152
 refine cY (z:=11) (N:=13) (c:=6) (by kernel_rfl) (fun k=>k+2) (fun k=>[.pointer (some ⟨g,0,none⟩),.pointer (some ⟨g,0,none⟩),.pointer (some ⟨g,0,none⟩),.pointer (some ⟨g,4,none⟩),sl.v,.pointer (some ⟨b,0,none⟩),undef,undef,undef,.pointer (some ⟨g,0,none⟩),.pointer (some ⟨g,4,none⟩)].getD k undef) (Ph lo b g 64 nm ss N V W s sl r N1) _ w0 rfl rfl (fun i j _ _ e=>by omega) (fun i hi=>by omega) (by kernel_rfl) (by omega) (by kernel_rfl) (by kernel_rfl) (by kernel_rfl) hd ?_ ?_ ?_ ?_ ?_
 ·intro k tm w hk hq bU b9 aW bC
  obtain ⟨ph,x,bC⟩:=bC
  have hB:=cq ph x w bC
  match k,hk with
  |0,_=>exact aT rfl rfl _ (.tmp 0) rfl (b9 0 (by intro i hi;omega)) (cD w (hB.cell (List.mem_cons_self ..) rfl)) ⟨rfl,rfl⟩
  |1,_=>exact aT rfl rfl _ (.tmp 0) rfl (b9 0 (by intro i hi;omega)) (cD w (hB.cell (List.mem_cons_self ..) rfl)) ⟨rfl,rfl⟩
  |2,_=>exact aY rfl rfl (.tmp 3) rfl (aW 1 (by omega) (by kernel_rfl)) ⟨rfl,rfl⟩
  |3,_=>exact bK rfl rfl _ (.tmp 4) _ rfl (aW 2 (by omega) (by kernel_rfl)) (Iv w) ⟨rfl,rfl⟩
  |4,_=>exact aT rfl rfl _ (.tmp 5) rfl (aW 3 (by omega) (by kernel_rfl)) (by rw[hv];exact DH w (by rw[←hv];exact hB.row hi)) ⟨rfl,rfl⟩
  |5,_=>exact aT rfl rfl _ (.tmp 1) rfl (b9 1 (by intro i hi;omega)) (cV w (hB.cell (zF _ (List.mem_cons_self ..)) rfl)) ⟨rfl,rfl⟩
  |6,_=>omega
  |7,_=>omega
  |8,_=>omega
  |9,_=>exact aY rfl rfl (.tmp 2) rfl (aW 0 (by omega) (by kernel_rfl)) ⟨rfl,rfl⟩
  |10,_=>exact bK rfl rfl _ (.tmp 11) _ rfl (aW 9 (by omega) (by kernel_rfl)) (Iv w) ⟨rfl,rfl⟩
 ·intro tm w bU b9 aW bC
  have aZ:Ap lo b g 64 nm ss N V W s w:=bC
  refine cn rfl rfl 103 (Ep w) _ _ rfl #[.pointer (some ⟨b,0,none⟩)] ?_ (cQ w aZ) ?_
  ·simp only[List.map_toArray,List.map_cons,List.map_nil,Act.eval]
   rw[show tm.getD 7 undef=_ from aW 5 (by omega) (by kernel_rfl)]
   rfl
  ·intro e w' j7
   rcases Ph.call hN iS bC j7 with ⟨x,rfl,h1⟩|⟨y,hr,rfl,hs⟩
   ·exact .inl ⟨x,rfl,x,rfl,h1⟩
   ·exact .inr ⟨_,rfl,rfl,by unfold CP;rw[hr];exact ⟨rfl,hs⟩⟩
 ·intro tm w x bU hx bC
  obtain ⟨a,s',hr,eT,aZ⟩:=id bC
  obtain ⟨f1,f2,f3⟩:=fx a x _ _ eT
  exact jQ rfl rfl _ _ _ rfl #[(0,x)] (by simp only[List.map_toArray,List.map_cons,List.map_nil,Act.eval];rw[show tm.getD 8 undef=x from hx]) (f3 w) ⟨_,rfl,Ph.bs hN iS bC⟩
 ·intro tm w y bU aW hy bC
  obtain ⟨a,s',x,gy,hr,rfl,rV,eT,aZ⟩:=id bC
  obtain ⟨f1,f2,f3⟩:=fx a x _ _ eT
  have hl:=aZ.bx.lt
  refine bX w rfl rfl (.tmp 6) (.tmp 9) 24 rfl (g+1) sl.t sl.sz bt lO ei nv sl.v sl.n sl.xs (aW 4 (by omega) (by kernel_rfl)) (aZ.bx.own 3 sl hi) ⟨gy,0,none⟩ 1 1 x.cells.toList hy (by rw[Array.length_toList,f1];omega) (dL rV) f2 (by unfold maxLen;omega) (by have:(sl.n+1)*bt≤100001*1000:=Nat.mul_le_mul (by omega) rm;omega) (by omega) ?_
  intro v' w' h1 h2 h3
  exact ⟨v',rfl,Ph.app hr aZ h2 h1 h3⟩
 ·intro tm w y bU b9 dt hy bC
  have hB:=cq 3 y w bC
  obtain ⟨a,s',x,w2,hr,h1,h2,h3,h4⟩:=id bC
  obtain ⟨ya,yn,yc,rfl⟩:=aL h3
  refine dM rfl rfl _ (.tmp 12) (.tmp 10) rfl (dt 10 (by omega) (by omega)) hy (C7 w (hB.row hi) (hB.frozen _)) ?_
  go_end0
  exact Ph.last hN iS hi bC
theorem Ll {α:Type}{lo b g:Nat}{nm:ByteArray}{ss:List Slot}{N:(Nat→Prop)→World→Prop}{V W w0:World}{s:aD}{sl:Slot}{r:Except (Int×Int) (α×aD)}{N1:α→Value→(Nat→Prop)→World→Prop}{pm pr bt:Nat} (h:Ap lo b g 26 nm ss N V W s w0) (hN:aK N) (iS:∀a x,aK (N1 a x)) (hi:ss[0]?=some sl) (du:Fit 22 sl bt N1) (hn:sl.n≤100000)
  (cB:∀P w,N P w→∀c ∈ ([(pm,#[.pointer (some ⟨g,0,none⟩)],135),(pr,#[.pointer (some ⟨b,0,none⟩)],107)]:List (Nat×Array Value×TypeId)),aP c.1 c.2.1 c.2.2 P w) (cQ:∀w,Ap lo b g 26 nm ss N V W s w→Calls Tryz.prog 99 #[.pointer (some ⟨b,0,none⟩)] w (CR lo b N1 w r)) :
  Calls Tryz.prog 98 #[.pointer (some ⟨pm,0,none⟩),.pointer (some ⟨pr,0,none⟩)] w0 (CP lo b g 26 nm ss N V W 0 sl r N1):=by
 obtain ⟨va,vn,vc,hv⟩:=aL (h.bx.own 0 sl hi)
 obtain ⟨ei,lO,nv,rm,fx⟩:=du
 have cq:=Ph.base (lo:=lo) (b:=b) (g:=g) (T:=26) (nm:=nm) (V:=V) (W:=W) (s:=s) (r:=r) (N1:=N1) cB hi
 have hd:=h.up hN (zE w0.heap.size w0).drew
 go_enter Tryz.func98,Tryz.ntmps98
 refine cY (z:=11) (N:=13) (c:=6) (by kernel_rfl) (fun k=>k+2) (fun k=>[.pointer (some ⟨g,0,none⟩),.pointer (some ⟨g,0,none⟩),.pointer (some ⟨g,0,none⟩),.pointer (some ⟨g,1,none⟩),sl.v,.pointer (some ⟨b,0,none⟩),undef,undef,undef,.pointer (some ⟨g,0,none⟩),.pointer (some ⟨g,1,none⟩)].getD k undef) (Ph lo b g 26 nm ss N V W s sl r N1) _ w0 rfl rfl (fun i j _ _ e=>by omega) (fun i hi=>by omega) (by kernel_rfl) (by omega) (by kernel_rfl) (by kernel_rfl) (by kernel_rfl) hd ?_ ?_ ?_ ?_ ?_
 ·intro k tm w hk hq bU b9 aW bC
  obtain ⟨ph,x,bC⟩:=bC
  have hB:=cq ph x w bC
  match k,hk with
  |0,_=>exact aT rfl rfl _ (.tmp 0) rfl (b9 0 (by intro i hi;omega)) (gR w (hB.cell (List.mem_cons_self ..) rfl)) ⟨rfl,rfl⟩
  |1,_=>exact aT rfl rfl _ (.tmp 0) rfl (b9 0 (by intro i hi;omega)) (gR w (hB.cell (List.mem_cons_self ..) rfl)) ⟨rfl,rfl⟩
  |2,_=>exact aY rfl rfl (.tmp 3) rfl (aW 1 (by omega) (by kernel_rfl)) ⟨rfl,rfl⟩
  |3,_=>exact bK rfl rfl _ (.tmp 4) _ rfl (aW 2 (by omega) (by kernel_rfl)) (Ea w) ⟨rfl,rfl⟩
  |4,_=>exact aT rfl rfl _ (.tmp 5) rfl (aW 3 (by omega) (by kernel_rfl)) (by rw[hv];exact vE w (by rw[←hv];exact hB.row hi)) ⟨rfl,rfl⟩
  |5,_=>exact aT rfl rfl _ (.tmp 1) rfl (b9 1 (by intro i hi;omega)) (cV w (hB.cell (zF _ (List.mem_cons_self ..)) rfl)) ⟨rfl,rfl⟩
  |6,_=>omega
  |7,_=>omega
  |8,_=>omega
  |9,_=>exact aY rfl rfl (.tmp 2) rfl (aW 0 (by omega) (by kernel_rfl)) ⟨rfl,rfl⟩
  |10,_=>exact bK rfl rfl _ (.tmp 11) _ rfl (aW 9 (by omega) (by kernel_rfl)) (Ea w) ⟨rfl,rfl⟩
 ·intro tm w bU b9 aW bC
  have aZ:Ap lo b g 26 nm ss N V W s w:=bC
  refine cn rfl rfl 99 (Ce w) _ _ rfl #[.pointer (some ⟨b,0,none⟩)] ?_ (cQ w aZ) ?_
  ·simp only[List.map_toArray,List.map_cons,List.map_nil,Act.eval]
   rw[show tm.getD 7 undef=_ from aW 5 (by omega) (by kernel_rfl)]
   rfl
  ·intro e w' j7
   rcases Ph.call hN iS bC j7 with ⟨x,rfl,h1⟩|⟨y,hr,rfl,hs⟩
   ·exact .inl ⟨x,rfl,x,rfl,h1⟩
   ·exact .inr ⟨_,rfl,rfl,by unfold CP;rw[hr];exact ⟨rfl,hs⟩⟩
 ·intro tm w x bU hx bC
  obtain ⟨a,s',hr,eT,aZ⟩:=id bC
  obtain ⟨f1,f2,f3⟩:=fx a x _ _ eT
  exact jQ rfl rfl _ _ _ rfl #[(0,x)] (by simp only[List.map_toArray,List.map_cons,List.map_nil,Act.eval];rw[show tm.getD 8 undef=x from hx]) (f3 w) ⟨_,rfl,Ph.bs hN iS bC⟩
 ·intro tm w y bU aW hy bC
  obtain ⟨a,s',x,gy,hr,rfl,rV,eT,aZ⟩:=id bC
  obtain ⟨f1,f2,f3⟩:=fx a x _ _ eT
  have hl:=aZ.bx.lt
  refine bX w rfl rfl (.tmp 6) (.tmp 9) 22 rfl (g+1) sl.t sl.sz bt lO ei nv sl.v sl.n sl.xs (aW 4 (by omega) (by kernel_rfl)) (aZ.bx.own 0 sl hi) ⟨gy,0,none⟩ 1 1 x.cells.toList hy (by rw[Array.length_toList,f1];omega) (dL rV) f2 (by unfold maxLen;omega) (by have:(sl.n+1)*bt≤100001*1000:=Nat.mul_le_mul (by omega) rm;omega) (by omega) ?_
  intro v' w' h1 h2 h3
  exact ⟨v',rfl,Ph.app hr aZ h2 h1 h3⟩
 ·intro tm w y bU b9 dt hy bC
  have hB:=cq 3 y w bC
  obtain ⟨a,s',x,w2,hr,h1,h2,h3,h4⟩:=id bC
  obtain ⟨ya,yn,yc,rfl⟩:=aL h3
  refine dM rfl rfl _ (.tmp 12) (.tmp 10) rfl (dt 10 (by omega) (by omega)) hy (Ba w (hB.row hi) (hB.frozen _)) ?_
  go_end0
  exact Ph.last hN iS hi bC
theorem Lk {α:Type}{lo b g:Nat}{nm:ByteArray}{ss:List Slot}{N:(Nat→Prop)→World→Prop}{V W w0:World}{s:aD}{sl:Slot}{r:Except (Int×Int) (α×aD)}{N1:α→Value→(Nat→Prop)→World→Prop}{pm pr bt:Nat} (h:Ap lo b g 26 nm ss N V W s w0) (hN:aK N) (iS:∀a x,aK (N1 a x)) (hi:ss[2]?=some sl) (du:Fit 24 sl bt N1) (hn:sl.n≤100000)
  (cB:∀P w,N P w→∀c ∈ ([(pm,#[.pointer (some ⟨g,0,none⟩)],135),(pr,#[.pointer (some ⟨b,0,none⟩)],107)]:List (Nat×Array Value×TypeId)),aP c.1 c.2.1 c.2.2 P w) (cQ:∀w,Ap lo b g 26 nm ss N V W s w→Calls Tryz.prog 103 #[.pointer (some ⟨b,0,none⟩)] w (CR lo b N1 w r)) :
  Calls Tryz.prog 102 #[.pointer (some ⟨pm,0,none⟩),.pointer (some ⟨pr,0,none⟩)] w0 (CP lo b g 26 nm ss N V W 2 sl r N1):=by
 obtain ⟨va,vn,vc,hv⟩:=aL (h.bx.own 2 sl hi)
 obtain ⟨ei,lO,nv,rm,fx⟩:=du
 have cq:=Ph.base (lo:=lo) (b:=b) (g:=g) (T:=26) (nm:=nm) (V:=V) (W:=W) (s:=s) (r:=r) (N1:=N1) cB hi
 have hd:=h.up hN (zE w0.heap.size w0).drew
 go_enter Tryz.func102,Tryz.ntmps102
 refine cY (z:=11) (N:=13) (c:=6) (by kernel_rfl) (fun k=>k+2) (fun k=>[.pointer (some ⟨g,0,none⟩),.pointer (some ⟨g,0,none⟩),.pointer (some ⟨g,0,none⟩),.pointer (some ⟨g,3,none⟩),sl.v,.pointer (some ⟨b,0,none⟩),undef,undef,undef,.pointer (some ⟨g,0,none⟩),.pointer (some ⟨g,3,none⟩)].getD k undef) (Ph lo b g 26 nm ss N V W s sl r N1) _ w0 rfl rfl (fun i j _ _ e=>by omega) (fun i hi=>by omega) (by kernel_rfl) (by omega) (by kernel_rfl) (by kernel_rfl) (by kernel_rfl) hd ?_ ?_ ?_ ?_ ?_
 ·intro k tm w hk hq bU b9 aW bC
  obtain ⟨ph,x,bC⟩:=bC
  have hB:=cq ph x w bC
  match k,hk with
  |0,_=>exact aT rfl rfl _ (.tmp 0) rfl (b9 0 (by intro i hi;omega)) (gR w (hB.cell (List.mem_cons_self ..) rfl)) ⟨rfl,rfl⟩
  |1,_=>exact aT rfl rfl _ (.tmp 0) rfl (b9 0 (by intro i hi;omega)) (gR w (hB.cell (List.mem_cons_self ..) rfl)) ⟨rfl,rfl⟩
  |2,_=>exact aY rfl rfl (.tmp 3) rfl (aW 1 (by omega) (by kernel_rfl)) ⟨rfl,rfl⟩
  |3,_=>exact bK rfl rfl _ (.tmp 4) _ rfl (aW 2 (by omega) (by kernel_rfl)) (D9 w) ⟨rfl,rfl⟩
  |4,_=>exact aT rfl rfl _ (.tmp 5) rfl (aW 3 (by omega) (by kernel_rfl)) (by rw[hv];exact DH w (by rw[←hv];exact hB.row hi)) ⟨rfl,rfl⟩
  |5,_=>exact aT rfl rfl _ (.tmp 1) rfl (b9 1 (by intro i hi;omega)) (cV w (hB.cell (zF _ (List.mem_cons_self ..)) rfl)) ⟨rfl,rfl⟩
  |6,_=>omega
  |7,_=>omega
  |8,_=>omega
  |9,_=>exact aY rfl rfl (.tmp 2) rfl (aW 0 (by omega) (by kernel_rfl)) ⟨rfl,rfl⟩
  |10,_=>exact bK rfl rfl _ (.tmp 11) _ rfl (aW 9 (by omega) (by kernel_rfl)) (D9 w) ⟨rfl,rfl⟩
 ·intro tm w bU b9 aW bC
  have aZ:Ap lo b g 26 nm ss N V W s w:=bC
  refine cn rfl rfl 103 (Ep w) _ _ rfl #[.pointer (some ⟨b,0,none⟩)] ?_ (cQ w aZ) ?_
  ·simp only[List.map_toArray,List.map_cons,List.map_nil,Act.eval]
   rw[show tm.getD 7 undef=_ from aW 5 (by omega) (by kernel_rfl)]
   rfl
  ·intro e w' j7
   rcases Ph.call hN iS bC j7 with ⟨x,rfl,h1⟩|⟨y,hr,rfl,hs⟩
   ·exact .inl ⟨x,rfl,x,rfl,h1⟩
   ·exact .inr ⟨_,rfl,rfl,by unfold CP;rw[hr];exact ⟨rfl,hs⟩⟩
 ·intro tm w x bU hx bC
  obtain ⟨a,s',hr,eT,aZ⟩:=id bC
  obtain ⟨f1,f2,f3⟩:=fx a x _ _ eT
  exact jQ rfl rfl _ _ _ rfl #[(0,x)] (by simp only[List.map_toArray,List.map_cons,List.map_nil,Act.eval];rw[show tm.getD 8 undef=x from hx]) (f3 w) ⟨_,rfl,Ph.bs hN iS bC⟩
 ·intro tm w y bU aW hy bC
  obtain ⟨a,s',x,gy,hr,rfl,rV,eT,aZ⟩:=id bC
  obtain ⟨f1,f2,f3⟩:=fx a x _ _ eT
  have hl:=aZ.bx.lt
  refine bX w rfl rfl (.tmp 6) (.tmp 9) 24 rfl (g+1) sl.t sl.sz bt lO ei nv sl.v sl.n sl.xs (aW 4 (by omega) (by kernel_rfl)) (aZ.bx.own 2 sl hi) ⟨gy,0,none⟩ 1 1 x.cells.toList hy (by rw[Array.length_toList,f1];omega) (dL rV) f2 (by unfold maxLen;omega) (by have:(sl.n+1)*bt≤100001*1000:=Nat.mul_le_mul (by omega) rm;omega) (by omega) ?_
  intro v' w' h1 h2 h3
  exact ⟨v',rfl,Ph.app hr aZ h2 h1 h3⟩
 ·intro tm w y bU b9 dt hy bC
  have hB:=cq 3 y w bC
  obtain ⟨a,s',x,w2,hr,h1,h2,h3,h4⟩:=id bC
  obtain ⟨ya,yn,yc,rfl⟩:=aL h3
  refine dM rfl rfl _ (.tmp 12) (.tmp 10) rfl (dt 10 (by omega) (by omega)) hy (C7 w (hB.row hi) (hB.frozen _)) ?_
  go_end0
  exact Ph.last hN iS hi bC
theorem Mt {α:Type}{lo b g:Nat}{nm:ByteArray}{ss:List Slot}{N:(Nat→Prop)→World→Prop}{V W w0:World}{s:aD}{sl:Slot}{r:Except (Int×Int) (α×aD)}{N1:α→Value→(Nat→Prop)→World→Prop}{pr bt:Nat} (h:Ap lo b g 64 nm ss N V W s w0) (hN:aK N) (iS:∀a x,aK (N1 a x)) (hi:ss[0]?=some sl) (du:Fit 61 sl bt N1) (hn:sl.n≤100000)
  (cB:∀P w,N P w→∀c ∈ ([(pr,#[.pointer (some ⟨b,0,none⟩)],107)]:List (Nat×Array Value×TypeId)),aP c.1 c.2.1 c.2.2 P w) (cQ:∀w,Ap lo b g 64 nm ss N V W s w→Calls Tryz.prog 126 #[.pointer (some ⟨b,0,none⟩),.int .i64 0] w (CR lo b N1 w r)) :
  Calls Tryz.prog 125 #[.pointer (some ⟨g,0,none⟩),.pointer (some ⟨pr,0,none⟩)] w0 (CP lo b g 64 nm ss N V W 0 sl r N1):=by
 obtain ⟨va,vn,vc,hv⟩:=aL (h.bx.own 0 sl hi)
 obtain ⟨ei,lO,nv,rm,fx⟩:=du
 have cq:=Ph.base (lo:=lo) (b:=b) (g:=g) (T:=64) (nm:=nm) (V:=V) (W:=W) (s:=s) (r:=r) (N1:=N1) cB hi
 have hd:=h.up hN (zE w0.heap.size w0).drew
 go_enter Tryz.func125,Tryz.ntmps125
 refine cY (z:=7) (N:=9) (c:=3) (by kernel_rfl) (fun k=>k+2) (fun k=>[.pointer (some ⟨g,1,none⟩),sl.v,.pointer (some ⟨b,0,none⟩),undef,undef,undef,.pointer (some ⟨g,1,none⟩)].getD k undef) (Ph lo b g 64 nm ss N V W s sl r N1) _ w0 rfl rfl (fun i j _ _ e=>by omega) (fun i hi=>by omega) (by kernel_rfl) (by omega) (by kernel_rfl) (by kernel_rfl) (by kernel_rfl) hd ?_ ?_ ?_ ?_ ?_
 ·intro k tm w hk hq bU b9 aW bC
  obtain ⟨ph,x,bC⟩:=bC
  have hB:=cq ph x w bC
  match k,hk with
  |0,_=>exact bK rfl rfl _ (.tmp 0) _ rfl (b9 0 (by intro i hi;omega)) (ja w) ⟨rfl,rfl⟩
  |1,_=>exact aT rfl rfl _ (.tmp 2) rfl (aW 0 (by omega) (by kernel_rfl)) (by rw[hv];exact qt w (by rw[←hv];exact hB.row hi)) ⟨rfl,rfl⟩
  |2,_=>exact aT rfl rfl _ (.tmp 1) rfl (b9 1 (by intro i hi;omega)) (cV w (hB.cell (List.mem_cons_self ..) rfl)) ⟨rfl,rfl⟩
  |3,_=>omega
  |4,_=>omega
  |5,_=>omega
  |6,_=>exact bK rfl rfl _ (.tmp 0) _ rfl (b9 0 (by intro i hi;omega)) (ja w) ⟨rfl,rfl⟩
 ·intro tm w bU b9 aW bC
  have aZ:Ap lo b g 64 nm ss N V W s w:=bC
  refine cn rfl rfl 126 (AP w) _ _ rfl #[.pointer (some ⟨b,0,none⟩),.int .i64 0] ?_ (cQ w aZ) ?_
  ·simp only[List.map_toArray,List.map_cons,List.map_nil,Act.eval]
   rw[show tm.getD 4 undef=_ from aW 2 (by omega) (by kernel_rfl)]
   rfl
  ·intro e w' j7
   rcases Ph.call hN iS bC j7 with ⟨x,rfl,h1⟩|⟨y,hr,rfl,hs⟩
   ·exact .inl ⟨x,rfl,x,rfl,h1⟩
   ·exact .inr ⟨_,rfl,rfl,by unfold CP;rw[hr];exact ⟨rfl,hs⟩⟩
 ·intro tm w x bU hx bC
  obtain ⟨a,s',hr,eT,aZ⟩:=id bC
  obtain ⟨f1,f2,f3⟩:=fx a x _ _ eT
  exact jQ rfl rfl _ _ _ rfl #[(0,x)] (by simp only[List.map_toArray,List.map_cons,List.map_nil,Act.eval];rw[show tm.getD 5 undef=x from hx]) (f3 w) ⟨_,rfl,Ph.bs hN iS bC⟩
 ·intro tm w y bU aW hy bC
  obtain ⟨a,s',x,gy,hr,rfl,rV,eT,aZ⟩:=id bC
  obtain ⟨f1,f2,f3⟩:=fx a x _ _ eT
  have hl:=aZ.bx.lt
  refine bX w rfl rfl (.tmp 3) (.tmp 6) 61 rfl (g+1) sl.t sl.sz bt lO ei nv sl.v sl.n sl.xs (aW 1 (by omega) (by kernel_rfl)) (aZ.bx.own 0 sl hi) ⟨gy,0,none⟩ 1 1 x.cells.toList hy (by rw[Array.length_toList,f1];omega) (dL rV) f2 (by unfold maxLen;omega) (by have:(sl.n+1)*bt≤100001*1000:=Nat.mul_le_mul (by omega) rm;omega) (by omega) ?_
  intro v' w' h1 h2 h3
  exact ⟨v',rfl,Ph.app hr aZ h2 h1 h3⟩
 ·intro tm w y bU b9 dt hy bC
  have hB:=cq 3 y w bC
  obtain ⟨a,s',x,w2,hr,h1,h2,h3,h4⟩:=id bC
  obtain ⟨ya,yn,yc,rfl⟩:=aL h3
  refine dM rfl rfl _ (.tmp 8) (.tmp 7) rfl (dt 6 (by omega) (by omega)) hy (qg w (hB.row hi) (hB.frozen _)) ?_
  go_end0
  exact Ph.last hN iS hi bC
theorem Kd {α:Type}{lo b g:Nat}{nm:ByteArray}{ss:List Slot}{N:(Nat→Prop)→World→Prop}{V W w0:World}{s:aD}{sl:Slot}{r:Except (Int×Int) (α×aD)}{N1:α→Value→(Nat→Prop)→World→Prop}{pr bt:Nat} (h:Ap lo b g 68 nm ss N V W s w0) (hN:aK N) (iS:∀a x,aK (N1 a x)) (hi:ss[0]?=some sl) (du:Fit 66 sl bt N1) (hn:sl.n≤100000)
  (cB:∀P w,N P w→∀c ∈ ([(pr,#[.pointer (some ⟨b,0,none⟩)],107)]:List (Nat×Array Value×TypeId)),aP c.1 c.2.1 c.2.2 P w) (cQ:∀w,Ap lo b g 68 nm ss N V W s w→Calls Tryz.prog 129 #[.pointer (some ⟨b,0,none⟩)] w (CR lo b N1 w r)) :
  Calls Tryz.prog 128 #[.pointer (some ⟨g,0,none⟩),.pointer (some ⟨pr,0,none⟩)] w0 (CP lo b g 68 nm ss N V W 0 sl r N1):=by
 obtain ⟨va,vn,vc,hv⟩:=aL (h.bx.own 0 sl hi)
 obtain ⟨ei,lO,nv,rm,fx⟩:=du
 have cq:=Ph.base (lo:=lo) (b:=b) (g:=g) (T:=68) (nm:=nm) (V:=V) (W:=W) (s:=s) (r:=r) (N1:=N1) cB hi
 have hd:=h.up hN (zE w0.heap.size w0).drew
 go_enter Tryz.func128,Tryz.ntmps128
 refine cY (z:=7) (N:=9) (c:=3) (by kernel_rfl) (fun k=>k+2) (fun k=>[.pointer (some ⟨g,1,none⟩),sl.v,.pointer (some ⟨b,0,none⟩),undef,undef,undef,.pointer (some ⟨g,1,none⟩)].getD k undef) (Ph lo b g 68 nm ss N V W s sl r N1) _ w0 rfl rfl (fun i j _ _ e=>by omega) (fun i hi=>by omega) (by kernel_rfl) (by omega) (by kernel_rfl) (by kernel_rfl) (by kernel_rfl) hd ?_ ?_ ?_ ?_ ?_
 ·intro k tm w hk hq bU b9 aW bC
  obtain ⟨ph,x,bC⟩:=bC
  have hB:=cq ph x w bC
  match k,hk with
  |0,_=>exact bK rfl rfl _ (.tmp 0) _ rfl (b9 0 (by intro i hi;omega)) (AF w) ⟨rfl,rfl⟩
  |1,_=>exact aT rfl rfl _ (.tmp 2) rfl (aW 0 (by omega) (by kernel_rfl)) (by rw[hv];exact QC w (by rw[←hv];exact hB.row hi)) ⟨rfl,rfl⟩
  |2,_=>exact aT rfl rfl _ (.tmp 1) rfl (b9 1 (by intro i hi;omega)) (cV w (hB.cell (List.mem_cons_self ..) rfl)) ⟨rfl,rfl⟩
  |3,_=>omega
  |4,_=>omega
  |5,_=>omega
  |6,_=>exact bK rfl rfl _ (.tmp 0) _ rfl (b9 0 (by intro i hi;omega)) (AF w) ⟨rfl,rfl⟩
 ·intro tm w bU b9 aW bC
  have aZ:Ap lo b g 68 nm ss N V W s w:=bC
  refine cn rfl rfl 129 (Km w) _ _ rfl #[.pointer (some ⟨b,0,none⟩)] ?_ (cQ w aZ) ?_
  ·simp only[List.map_toArray,List.map_cons,List.map_nil,Act.eval]
   rw[show tm.getD 4 undef=_ from aW 2 (by omega) (by kernel_rfl)]
   rfl
  ·intro e w' j7
   rcases Ph.call hN iS bC j7 with ⟨x,rfl,h1⟩|⟨y,hr,rfl,hs⟩
   ·exact .inl ⟨x,rfl,x,rfl,h1⟩
   ·exact .inr ⟨_,rfl,rfl,by unfold CP;rw[hr];exact ⟨rfl,hs⟩⟩
 ·intro tm w x bU hx bC
  obtain ⟨a,s',hr,eT,aZ⟩:=id bC
  obtain ⟨f1,f2,f3⟩:=fx a x _ _ eT
  exact jQ rfl rfl _ _ _ rfl #[(0,x)] (by simp only[List.map_toArray,List.map_cons,List.map_nil,Act.eval];rw[show tm.getD 5 undef=x from hx]) (f3 w) ⟨_,rfl,Ph.bs hN iS bC⟩
 ·intro tm w y bU aW hy bC
  obtain ⟨a,s',x,gy,hr,rfl,rV,eT,aZ⟩:=id bC
  obtain ⟨f1,f2,f3⟩:=fx a x _ _ eT
  have hl:=aZ.bx.lt
  refine bX w rfl rfl (.tmp 3) (.tmp 6) 66 rfl (g+1) sl.t sl.sz bt lO ei nv sl.v sl.n sl.xs (aW 1 (by omega) (by kernel_rfl)) (aZ.bx.own 0 sl hi) ⟨gy,0,none⟩ 1 1 x.cells.toList hy (by rw[Array.length_toList,f1];omega) (dL rV) f2 (by unfold maxLen;omega) (by have:(sl.n+1)*bt≤100001*1000:=Nat.mul_le_mul (by omega) rm;omega) (by omega) ?_
  intro v' w' h1 h2 h3
  exact ⟨v',rfl,Ph.app hr aZ h2 h1 h3⟩
 ·intro tm w y bU b9 dt hy bC
  have hB:=cq 3 y w bC
  obtain ⟨a,s',x,w2,hr,h1,h2,h3,h4⟩:=id bC
  obtain ⟨ya,yn,yc,rfl⟩:=aL h3
  refine dM rfl rfl _ (.tmp 8) (.tmp 7) rfl (dt 6 (by omega) (by omega)) hy (P7 w (hB.row hi) (hB.frozen _)) ?_
  go_end0
  exact Ph.last hN iS hi bC
theorem bN {w:World}{bs e z n:Nat}{v:Value}{xs:List Value} (h:w.ownsRow bs e z v n xs):∃a c,v=.slice a n c:=by
 rcases h.2 with ⟨rfl,h0⟩|⟨g,c,_,rfl,_⟩
 ·exact ⟨_,_,by rw[h0]⟩
 ·exact ⟨_,_,rfl⟩
theorem JO (w:World) {p:Nat}{l h:Int}{m:Bool} (h0:w.cell? ⟨p,0,none⟩=some (.int .i64 l)) (h1:w.cell? ⟨p,1,none⟩=some (.int .i64 h)) (h2:w.cell? ⟨p,2,none⟩=some (.bool m)):(Instr.loadAt 196 (.pointer (some ⟨p,0,none⟩))).run Tryz.prog w=.ok (.agg #[.int .i64 l,.int .i64 h,.bool m]) w:=by
 go_simp
theorem Fu {α:Type}{lo b g:Nat}{nm:ByteArray}{ss:List Slot}{N:(Nat→Prop)→World→Prop}{V W w0:World}{s:aD}{sl:Slot}{r:Except (Int×Int) (α×aD)}{N1:α→Value→(Nat→Prop)→World→Prop}{pm pr bt:Nat}{so:Slot} (ho:ss[1]?=some so) (h:Ap lo b g 64 nm ss N V W s w0) (hN:aK N) (iS:∀a x,aK (N1 a x)) (hi:ss[0]?=some sl) (du:Fit 61 sl bt N1) (hn:sl.n≤100000)
  (cB:∀P w,N P w→∀c ∈ ([(pm,#[.pointer (some ⟨g,0,none⟩)],167),(pr,#[.pointer (some ⟨b,0,none⟩)],107)]:List (Nat×Array Value×TypeId)),aP c.1 c.2.1 c.2.2 P w) (cQ:∀w,Ap lo b g 64 nm ss N V W s w→Calls Tryz.prog 126 #[.pointer (some ⟨b,0,none⟩),.int .i64 (so.n:Int)] w (CR lo b N1 w r)) :
  Calls Tryz.prog 173 #[.pointer (some ⟨pm,0,none⟩),.pointer (some ⟨pr,0,none⟩)] w0 (CP lo b g 64 nm ss N V W 0 sl r N1):=by
 obtain ⟨va,vn,vc,hv⟩:=aL (h.bx.own 0 sl hi)
 obtain ⟨ei,lO,nv,rm,fx⟩:=du
 have cq:=Ph.base (lo:=lo) (b:=b) (g:=g) (T:=64) (nm:=nm) (V:=V) (W:=W) (s:=s) (r:=r) (N1:=N1) cB hi
 have hd:=h.up hN (zE w0.heap.size w0).drew
 go_enter Tryz.func173,Tryz.ntmps173
 obtain ⟨oa,oc,hvo⟩:=bN (h.bx.own 1 so ho)
 refine cY (z:=16) (N:=18) (c:=11) (by kernel_rfl) (fun k=>k+2) (fun k=>[.pointer (some ⟨g,0,none⟩),.pointer (some ⟨g,0,none⟩),.pointer (some ⟨g,0,none⟩),.pointer (some ⟨g,1,none⟩),sl.v,.pointer (some ⟨b,0,none⟩),.pointer (some ⟨g,0,none⟩),.pointer (some ⟨g,0,none⟩),.pointer (some ⟨g,2,none⟩),so.v,.int .i64 (so.n:Int),undef,undef,undef,.pointer (some ⟨g,0,none⟩),.pointer (some ⟨g,1,none⟩)].getD k undef) (Ph lo b g 64 nm ss N V W s sl r N1) _ w0 rfl rfl (fun i j _ _ e=>by omega) (fun i hi=>by omega) (by kernel_rfl) (by omega) (by kernel_rfl) (by kernel_rfl) (by kernel_rfl) hd ?_ ?_ ?_ ?_ ?_
 ·intro k tm w hk hq bU b9 aW bC
  obtain ⟨ph,x,bC⟩:=bC
  have hB:=cq ph x w bC
  match k,hk with
  |0,_=>exact aT rfl rfl _ (.tmp 0) rfl (b9 0 (by intro i hi;omega)) (cD w (hB.cell (List.mem_cons_self ..) rfl)) ⟨rfl,rfl⟩
  |1,_=>exact aT rfl rfl _ (.tmp 0) rfl (b9 0 (by intro i hi;omega)) (cD w (hB.cell (List.mem_cons_self ..) rfl)) ⟨rfl,rfl⟩
  |2,_=>exact aY rfl rfl (.tmp 3) rfl (aW 1 (by omega) (by kernel_rfl)) ⟨rfl,rfl⟩
  |3,_=>exact bK rfl rfl _ (.tmp 4) _ rfl (aW 2 (by omega) (by kernel_rfl)) (ja w) ⟨rfl,rfl⟩
  |4,_=>exact aT rfl rfl _ (.tmp 5) rfl (aW 3 (by omega) (by kernel_rfl)) (by rw[hv];exact qt w (by rw[←hv];exact hB.row hi)) ⟨rfl,rfl⟩
  |5,_=>exact aT rfl rfl _ (.tmp 1) rfl (b9 1 (by intro i hi;omega)) (cV w (hB.cell (zF _ (List.mem_cons_self ..)) rfl)) ⟨rfl,rfl⟩
  |6,_=>exact aT rfl rfl _ (.tmp 0) rfl (b9 0 (by intro i hi;omega)) (cD w (hB.cell (List.mem_cons_self ..) rfl)) ⟨rfl,rfl⟩
  |7,_=>exact aY rfl rfl (.tmp 8) rfl (aW 6 (by omega) (by kernel_rfl)) ⟨rfl,rfl⟩
  |8,_=>exact bK rfl rfl _ (.tmp 9) _ rfl (aW 7 (by omega) (by kernel_rfl)) (B0 w) ⟨rfl,rfl⟩
  |9,_=>exact aT rfl rfl _ (.tmp 10) rfl (aW 8 (by omega) (by kernel_rfl)) (by rw[hvo];exact vE w (by rw[←hvo];exact hB.row ho)) ⟨rfl,rfl⟩
  |10,_=>exact Ft rfl rfl (.tmp 11) 22 9 rfl Tryz.underlying22 ((aW 9 (by omega) (by kernel_rfl)).trans hvo) ⟨rfl,rfl⟩
  |11,_=>omega
  |12,_=>omega
  |13,_=>omega
  |14,_=>exact aY rfl rfl (.tmp 2) rfl (aW 0 (by omega) (by kernel_rfl)) ⟨rfl,rfl⟩
  |15,_=>exact bK rfl rfl _ (.tmp 16) _ rfl (aW 14 (by omega) (by kernel_rfl)) (ja w) ⟨rfl,rfl⟩
  |k+16,h=>omega
 ·intro tm w bU b9 aW bC
  have aZ:Ap lo b g 64 nm ss N V W s w:=bC
  refine cn rfl rfl 126 (AP w) _ _ rfl #[.pointer (some ⟨b,0,none⟩),.int .i64 (so.n:Int)] ?_ (cQ w aZ) ?_
  ·simp only[List.map_toArray,List.map_cons,List.map_nil,Act.eval]
   rw[show tm.getD 7 undef=_ from aW 5 (by omega) (by kernel_rfl),show tm.getD 12 undef=_ from aW 10 (by omega) (by kernel_rfl)]
   rfl
  ·intro e w' j7
   rcases Ph.call hN iS bC j7 with ⟨x,rfl,h1⟩|⟨y,hr,rfl,hs⟩
   ·exact .inl ⟨x,rfl,x,rfl,h1⟩
   ·exact .inr ⟨_,rfl,rfl,by unfold CP;rw[hr];exact ⟨rfl,hs⟩⟩
 ·intro tm w x bU hx bC
  obtain ⟨a,s',hr,eT,aZ⟩:=id bC
  obtain ⟨f1,f2,f3⟩:=fx a x _ _ eT
  exact jQ rfl rfl _ _ _ rfl #[(0,x)] (by simp only[List.map_toArray,List.map_cons,List.map_nil,Act.eval];rw[show tm.getD 13 undef=x from hx]) (f3 w) ⟨_,rfl,Ph.bs hN iS bC⟩
 ·intro tm w y bU aW hy bC
  obtain ⟨a,s',x,gy,hr,rfl,rV,eT,aZ⟩:=id bC
  obtain ⟨f1,f2,f3⟩:=fx a x _ _ eT
  have hl:=aZ.bx.lt
  refine bX w rfl rfl (.tmp 6) (.tmp 14) 61 rfl (g+1) sl.t sl.sz bt lO ei nv sl.v sl.n sl.xs (aW 4 (by omega) (by kernel_rfl)) (aZ.bx.own 0 sl hi) ⟨gy,0,none⟩ 1 1 x.cells.toList hy (by rw[Array.length_toList,f1];omega) (dL rV) f2 (by unfold maxLen;omega) (by have:(sl.n+1)*bt≤100001*1000:=Nat.mul_le_mul (by omega) rm;omega) (by omega) ?_
  intro v' w' h1 h2 h3
  exact ⟨v',rfl,Ph.app hr aZ h2 h1 h3⟩
 ·intro tm w y bU b9 dt hy bC
  have hB:=cq 3 y w bC
  obtain ⟨a,s',x,w2,hr,h1,h2,h3,h4⟩:=id bC
  obtain ⟨ya,yn,yc,rfl⟩:=aL h3
  refine dM rfl rfl _ (.tmp 17) (.tmp 15) rfl (dt 15 (by omega) (by omega)) hy (qg w (hB.row hi) (hB.frozen _)) ?_
  go_end0
  exact Ph.last hN iS hi bC
theorem LS {α:Type}{lo b g:Nat}{nm:ByteArray}{ss:List Slot}{N:(Nat→Prop)→World→Prop}{V W w0:World}{s:aD}{sl:Slot}{r:Except (Int×Int) (α×aD)}{N1:α→Value→(Nat→Prop)→World→Prop}{pm pr bt:Nat}{T:TypeId}{i pb:Nat}{bl bh:Int}{bm:Bool} (h:Ap lo b g T nm ss N V W s w0) (hN:aK N) (iS:∀a x,aK (N1 a x)) (hi:ss[i]?=some sl) (du:Fit 62 sl bt N1) (hn:sl.n≤100000)
  (cB:∀P w,N P w→∀c ∈ ([(pm,#[.pointer (some ⟨g,i+1,none⟩)],197),(pr,#[.pointer (some ⟨b,0,none⟩)],107),(pb,#[.int .i64 bl,.int .i64 bh,.bool bm],196)]:List (Nat×Array Value×TypeId)),aP c.1 c.2.1 c.2.2 P w) (cQ:∀w,Ap lo b g T nm ss N V W s w→Calls Tryz.prog 175 #[.pointer (some ⟨b,0,none⟩),.agg #[.int .i64 bl,.int .i64 bh,.bool bm]] w (CR lo b N1 w r)) :
  Calls Tryz.prog 174 #[.pointer (some ⟨pm,0,none⟩),.pointer (some ⟨pr,0,none⟩),.pointer (some ⟨pb,0,none⟩)] w0 (CP lo b g T nm ss N V W i sl r N1):=by
 obtain ⟨va,vn,vc,hv⟩:=aL (h.bx.own i sl hi)
 obtain ⟨ei,lO,nv,rm,fx⟩:=du
 have cq:=Ph.base (lo:=lo) (b:=b) (g:=g) (T:=T) (nm:=nm) (V:=V) (W:=W) (s:=s) (r:=r) (N1:=N1) cB hi
 have hd:=h.up hN (zE w0.heap.size w0).drew
 go_enter Tryz.func174,Tryz.ntmps174
 refine cY (z:=10) (N:=13) (c:=6) (by kernel_rfl) (fun k=>k+3) (fun k=>[.pointer (some ⟨g,i+1,none⟩),.pointer (some ⟨g,i+1,none⟩),.pointer (some ⟨g,i+1,none⟩),sl.v,.pointer (some ⟨b,0,none⟩),.agg #[.int .i64 bl,.int .i64 bh,.bool bm],undef,undef,undef,.pointer (some ⟨g,i+1,none⟩)].getD k undef) (Ph lo b g T nm ss N V W s sl r N1) _ w0 rfl rfl (fun i j _ _ e=>by omega) (fun i hi=>by omega) (by kernel_rfl) (by omega) (by kernel_rfl) (by kernel_rfl) (by kernel_rfl) hd ?_ ?_ ?_ ?_ ?_
 ·intro k tm w hk hq bU b9 aW bC
  obtain ⟨ph,x,bC⟩:=bC
  have hB:=cq ph x w bC
  match k,hk with
  |0,_=>exact aT rfl rfl _ (.tmp 0) rfl (b9 0 (by intro i hi;omega)) (qs w (hB.cell (List.mem_cons_self ..) rfl)) ⟨rfl,rfl⟩
  |1,_=>exact aT rfl rfl _ (.tmp 0) rfl (b9 0 (by intro i hi;omega)) (qs w (hB.cell (List.mem_cons_self ..) rfl)) ⟨rfl,rfl⟩
  |2,_=>exact aY rfl rfl (.tmp 4) rfl (aW 1 (by omega) (by kernel_rfl)) ⟨rfl,rfl⟩
  |3,_=>exact aT rfl rfl _ (.tmp 5) rfl (aW 2 (by omega) (by kernel_rfl)) (by rw[hv];exact JN w (by rw[←hv];exact hB.row hi)) ⟨rfl,rfl⟩
  |4,_=>exact aT rfl rfl _ (.tmp 1) rfl (b9 1 (by intro i hi;omega)) (cV w (hB.cell (zF _ (List.mem_cons_self ..)) rfl)) ⟨rfl,rfl⟩
  |5,_=>exact aT rfl rfl _ (.tmp 2) rfl (b9 2 (by intro i hi;omega)) (JO w (hB.cell (j:=0) (zF _ (zF _ (List.mem_cons_self ..))) rfl) (hB.cell (j:=1) (zF _ (zF _ (List.mem_cons_self ..))) rfl) (hB.cell (j:=2) (zF _ (zF _ (List.mem_cons_self ..))) rfl)) ⟨rfl,rfl⟩
  |6,_=>omega
  |7,_=>omega
  |8,_=>omega
  |9,_=>exact aY rfl rfl (.tmp 3) rfl (aW 0 (by omega) (by kernel_rfl)) ⟨rfl,rfl⟩
 ·intro tm w bU b9 aW bC
  have aZ:Ap lo b g T nm ss N V W s w:=bC
  refine cn rfl rfl 175 (RO w) _ _ rfl #[.pointer (some ⟨b,0,none⟩),.agg #[.int .i64 bl,.int .i64 bh,.bool bm]] ?_ (cQ w aZ) ?_
  ·simp only[List.map_toArray,List.map_cons,List.map_nil,Act.eval]
   rw[show tm.getD 7 undef=_ from aW 4 (by omega) (by kernel_rfl),show tm.getD 8 undef=_ from aW 5 (by omega) (by kernel_rfl)]
   rfl
  ·intro e w' j7
   rcases Ph.call hN iS bC j7 with ⟨x,rfl,h1⟩|⟨y,hr,rfl,hs⟩
   ·exact .inl ⟨x,rfl,x,rfl,h1⟩
   ·exact .inr ⟨_,rfl,rfl,by unfold CP;rw[hr];exact ⟨rfl,hs⟩⟩
 ·intro tm w x bU hx bC
  obtain ⟨a,s',hr,eT,aZ⟩:=id bC
  obtain ⟨f1,f2,f3⟩:=fx a x _ _ eT
  exact jQ rfl rfl _ _ _ rfl #[(0,x)] (by simp only[List.map_toArray,List.map_cons,List.map_nil,Act.eval];rw[show tm.getD 9 undef=x from hx]) (f3 w) ⟨_,rfl,Ph.bs hN iS bC⟩
 ·intro tm w y bU aW hy bC
  obtain ⟨a,s',x,gy,hr,rfl,rV,eT,aZ⟩:=id bC
  obtain ⟨f1,f2,f3⟩:=fx a x _ _ eT
  have hl:=aZ.bx.lt
  refine bX w rfl rfl (.tmp 6) (.tmp 10) 62 rfl (g+1) sl.t sl.sz bt lO ei nv sl.v sl.n sl.xs (aW 3 (by omega) (by kernel_rfl)) (aZ.bx.own i sl hi) ⟨gy,0,none⟩ 1 1 x.cells.toList hy (by rw[Array.length_toList,f1];omega) (dL rV) f2 (by unfold maxLen;omega) (by have:(sl.n+1)*bt≤100001*1000:=Nat.mul_le_mul (by omega) rm;omega) (by omega) ?_
  intro v' w' h1 h2 h3
  exact ⟨v',rfl,Ph.app hr aZ h2 h1 h3⟩
 ·intro tm w y bU b9 dt hy bC
  have hB:=cq 3 y w bC
  obtain ⟨a,s',x,w2,hr,h1,h2,h3,h4⟩:=id bC
  obtain ⟨ya,yn,yc,rfl⟩:=aL h3
  refine dM rfl rfl _ (.tmp 12) (.tmp 11) rfl (dt 9 (by omega) (by omega)) hy (Jk w (hB.row hi) (hB.frozen _)) ?_
  go_end0
  exact Ph.last hN iS hi bC
theorem LR {α:Type}{lo b g:Nat}{nm:ByteArray}{ss:List Slot}{N:(Nat→Prop)→World→Prop}{V W w0:World}{s:aD}{sl:Slot}{r:Except (Int×Int) (α×aD)}{N1:α→Value→(Nat→Prop)→World→Prop}{pm pr bt:Nat}{T:TypeId}{i:Nat} (h:Ap lo b g T nm ss N V W s w0) (hN:aK N) (iS:∀a x,aK (N1 a x)) (hi:ss[i]?=some sl) (du:Fit 22 sl bt N1) (hn:sl.n≤100000)
  (cB:∀P w,N P w→∀c ∈ ([(pm,#[.pointer (some ⟨g,i+1,none⟩)],198),(pr,#[.pointer (some ⟨b,0,none⟩)],107)]:List (Nat×Array Value×TypeId)),aP c.1 c.2.1 c.2.2 P w) (cQ:∀w,Ap lo b g T nm ss N V W s w→Calls Tryz.prog 177 #[.pointer (some ⟨b,0,none⟩)] w (CR lo b N1 w r)) :
  Calls Tryz.prog 176 #[.pointer (some ⟨pm,0,none⟩),.pointer (some ⟨pr,0,none⟩)] w0 (CP lo b g T nm ss N V W i sl r N1):=by
 obtain ⟨va,vn,vc,hv⟩:=aL (h.bx.own i sl hi)
 obtain ⟨ei,lO,nv,rm,fx⟩:=du
 have cq:=Ph.base (lo:=lo) (b:=b) (g:=g) (T:=T) (nm:=nm) (V:=V) (W:=W) (s:=s) (r:=r) (N1:=N1) cB hi
 have hd:=h.up hN (zE w0.heap.size w0).drew
 go_enter Tryz.func176,Tryz.ntmps176
 refine cY (z:=9) (N:=11) (c:=5) (by kernel_rfl) (fun k=>k+2) (fun k=>[.pointer (some ⟨g,i+1,none⟩),.pointer (some ⟨g,i+1,none⟩),.pointer (some ⟨g,i+1,none⟩),sl.v,.pointer (some ⟨b,0,none⟩),undef,undef,undef,.pointer (some ⟨g,i+1,none⟩)].getD k undef) (Ph lo b g T nm ss N V W s sl r N1) _ w0 rfl rfl (fun i j _ _ e=>by omega) (fun i hi=>by omega) (by kernel_rfl) (by omega) (by kernel_rfl) (by kernel_rfl) (by kernel_rfl) hd ?_ ?_ ?_ ?_ ?_
 ·intro k tm w hk hq bU b9 aW bC
  obtain ⟨ph,x,bC⟩:=bC
  have hB:=cq ph x w bC
  match k,hk with
  |0,_=>exact aT rfl rfl _ (.tmp 0) rfl (b9 0 (by intro i hi;omega)) (xy w (hB.cell (List.mem_cons_self ..) rfl)) ⟨rfl,rfl⟩
  |1,_=>exact aT rfl rfl _ (.tmp 0) rfl (b9 0 (by intro i hi;omega)) (xy w (hB.cell (List.mem_cons_self ..) rfl)) ⟨rfl,rfl⟩
  |2,_=>exact aY rfl rfl (.tmp 3) rfl (aW 1 (by omega) (by kernel_rfl)) ⟨rfl,rfl⟩
  |3,_=>exact aT rfl rfl _ (.tmp 4) rfl (aW 2 (by omega) (by kernel_rfl)) (by rw[hv];exact vE w (by rw[←hv];exact hB.row hi)) ⟨rfl,rfl⟩
  |4,_=>exact aT rfl rfl _ (.tmp 1) rfl (b9 1 (by intro i hi;omega)) (cV w (hB.cell (zF _ (List.mem_cons_self ..)) rfl)) ⟨rfl,rfl⟩
  |5,_=>omega
  |6,_=>omega
  |7,_=>omega
  |8,_=>exact aY rfl rfl (.tmp 2) rfl (aW 0 (by omega) (by kernel_rfl)) ⟨rfl,rfl⟩
 ·intro tm w bU b9 aW bC
  have aZ:Ap lo b g T nm ss N V W s w:=bC
  refine cn rfl rfl 177 (Cf w) _ _ rfl #[.pointer (some ⟨b,0,none⟩)] ?_ (cQ w aZ) ?_
  ·simp only[List.map_toArray,List.map_cons,List.map_nil,Act.eval]
   rw[show tm.getD 6 undef=_ from aW 4 (by omega) (by kernel_rfl)]
   rfl
  ·intro e w' j7
   rcases Ph.call hN iS bC j7 with ⟨x,rfl,h1⟩|⟨y,hr,rfl,hs⟩
   ·exact .inl ⟨x,rfl,x,rfl,h1⟩
   ·exact .inr ⟨_,rfl,rfl,by unfold CP;rw[hr];exact ⟨rfl,hs⟩⟩
 ·intro tm w x bU hx bC
  obtain ⟨a,s',hr,eT,aZ⟩:=id bC
  obtain ⟨f1,f2,f3⟩:=fx a x _ _ eT
  exact jQ rfl rfl _ _ _ rfl #[(0,x)] (by simp only[List.map_toArray,List.map_cons,List.map_nil,Act.eval];rw[show tm.getD 7 undef=x from hx]) (f3 w) ⟨_,rfl,Ph.bs hN iS bC⟩
 ·intro tm w y bU aW hy bC
  obtain ⟨a,s',x,gy,hr,rfl,rV,eT,aZ⟩:=id bC
  obtain ⟨f1,f2,f3⟩:=fx a x _ _ eT
  have hl:=aZ.bx.lt
  refine bX w rfl rfl (.tmp 5) (.tmp 8) 22 rfl (g+1) sl.t sl.sz bt lO ei nv sl.v sl.n sl.xs (aW 3 (by omega) (by kernel_rfl)) (aZ.bx.own i sl hi) ⟨gy,0,none⟩ 1 1 x.cells.toList hy (by rw[Array.length_toList,f1];omega) (dL rV) f2 (by unfold maxLen;omega) (by have:(sl.n+1)*bt≤100001*1000:=Nat.mul_le_mul (by omega) rm;omega) (by omega) ?_
  intro v' w' h1 h2 h3
  exact ⟨v',rfl,Ph.app hr aZ h2 h1 h3⟩
 ·intro tm w y bU b9 dt hy bC
  have hB:=cq 3 y w bC
  obtain ⟨a,s',x,w2,hr,h1,h2,h3,h4⟩:=id bC
  obtain ⟨ya,yn,yc,rfl⟩:=aL h3
  refine dM rfl rfl _ (.tmp 10) (.tmp 9) rfl (dt 8 (by omega) (by omega)) hy (Ba w (hB.row hi) (hB.frozen _)) ?_
  go_end0
  exact Ph.last hN iS hi bC
end Go.Proofs.YtmlphohdcejniaaGreatDoor

import Derived.Test.YtjophoclfccmcaaGreatDoorPbF
set_option maxHeartbeats 4000000
set_option maxRecDepth 100000
namespace Go.Proofs.YtjophoclfccmcaaGreatDoor
open Go.RowKit
attribute [local go_sem ↓] Go.wp_at_zero Go.wp_at_succ
theorem Nl {α:Type}{lo b g:Nat}{nm:ByteArray}{ss:List Slot}{N:(Nat→Prop)→World→Prop}{V W w0:World}{s:ax}{sl:Slot}{r:Except (Int×Int) (α×ax)}{N1:α→Value→(Nat→Prop)→World→Prop}{pm pr bt:Nat} (h:Ap lo b g 49 nm ss N V W s w0) (hN:aP N) (js:∀a x,aP (N1 a x)) (hi:ss[0]?=some sl) (eO:Fit 46 sl bt N1) (hn:sl.n≤100000)
  (fk:∀P w,N P w→∀c ∈ ([(pm,#[.pointer (some ⟨g,0,none⟩)],158),(pr,#[.pointer (some ⟨b,0,none⟩)],74)]:List (Nat×Array Value×TypeId)),aX c.1 c.2.1 c.2.2 P w) (db:∀w,Ap lo b g 49 nm ss N V W s w→Calls Tryz.prog 151 #[.pointer (some ⟨b,0,none⟩),.int .i64 2] w (CR lo b N1 w r)) :
  Calls Tryz.prog 150 #[.pointer (some ⟨pm,0,none⟩),.pointer (some ⟨pr,0,none⟩)] w0 (CP lo b g 49 nm ss N V W 0 sl r N1):=by
 obtain ⟨va,vn,vc,hv⟩:=aU (h.bx.own 0 sl hi)
 obtain ⟨ei,me,oX,rW,fx⟩:=eO
 have cK:=Ph.base (lo:=lo) (b:=b) (g:=g) (T:=49) (nm:=nm) (V:=V) (W:=W) (s:=s) (r:=r) (N1:=N1) fk hi
 have hd:=h.up hN (zE w0.heap.size w0).drew
 go_enter Tryz.func150,Tryz.ntmps150
 refine dv (z:=11) (N:=13) (c:=6) (by kernel_rfl) (fun k=>k+2) (fun k=>[.pointer (some ⟨g,0,none⟩),.pointer (some ⟨g,0,none⟩),.pointer (some ⟨g,0,none⟩),.pointer (some ⟨g,1,none⟩),sl.v,.pointer (some ⟨b,0,none⟩),undef,undef,undef,.pointer (some ⟨g,0,none⟩),.pointer (some ⟨g,1,none⟩)].getD k undef) (Ph lo b g 49 nm ss N V W s sl r N1) _ w0 rfl rfl (fun i j _ _ e=>by omega) (fun i hi=>by omega) (by kernel_rfl) (by omega) (by kernel_rfl) (by kernel_rfl) (by kernel_rfl) hd ?_ ?_ ?_ ?_ ?_
 ·intro k tm w hk hq cl cB a8 bN
  obtain ⟨ph,x,bN⟩:=bN
  have hB:=cK ph x w bN
  match k,hk with
  |0,_=>exact aY rfl rfl _ (.tmp 0) rfl (cB 0 (by intro i hi;omega)) (cT w (hB.cell (List.mem_cons_self ..) rfl)) ⟨rfl,rfl⟩
  |1,_=>exact aY rfl rfl _ (.tmp 0) rfl (cB 0 (by intro i hi;omega)) (cT w (hB.cell (List.mem_cons_self ..) rfl)) ⟨rfl,rfl⟩
  |2,_=>exact bc rfl rfl (.tmp 3) rfl (a8 1 (by omega) (by kernel_rfl)) ⟨rfl,rfl⟩
  |3,_=>exact bW rfl rfl _ (.tmp 4) _ rfl (a8 2 (by omega) (by kernel_rfl)) (jA w) ⟨rfl,rfl⟩
  |4,_=>exact aY rfl rfl _ (.tmp 5) rfl (a8 3 (by omega) (by kernel_rfl)) (by rw[hv];exact qZ w (by rw[←hv];exact hB.row hi)) ⟨rfl,rfl⟩
  |5,_=>exact aY rfl rfl _ (.tmp 1) rfl (cB 1 (by intro i hi;omega)) (dh w (hB.cell (zF _ (List.mem_cons_self ..)) rfl)) ⟨rfl,rfl⟩
  |6,_=>omega
  |7,_=>omega
  |8,_=>omega
  |9,_=>exact bc rfl rfl (.tmp 2) rfl (a8 0 (by omega) (by kernel_rfl)) ⟨rfl,rfl⟩
  |10,_=>exact bW rfl rfl _ (.tmp 11) _ rfl (a8 9 (by omega) (by kernel_rfl)) (jA w) ⟨rfl,rfl⟩
 ·intro tm w cl cB a8 bN
  have bd:Ap lo b g 49 nm ss N V W s w:=bN
  refine cE rfl rfl 151 (rN w) _ _ rfl #[.pointer (some ⟨b,0,none⟩),.int .i64 2] ?_ (db w bd) ?_
  ·simp only[List.map_toArray,List.map_cons,List.map_nil,Act.eval]
   rw[show tm.getD 7 undef=_ from a8 5 (by omega) (by kernel_rfl)]
   rfl
  ·intro e w' ky
   rcases Ph.call hN js bN ky with ⟨x,rfl,h1⟩|⟨y,hr,rfl,hs⟩
   ·exact .inl ⟨x,rfl,x,rfl,h1⟩
   ·exact .inr ⟨_,rfl,rfl,by unfold CP;rw[hr];exact ⟨rfl,hs⟩⟩
 ·intro tm w x cl hx bN
  obtain ⟨a,s',hr,iI,bd⟩:=id bN
  obtain ⟨f1,f2,f3⟩:=fx a x _ _ iI
  exact kh rfl rfl _ _ _ rfl #[(0,x)] (by simp only[List.map_toArray,List.map_cons,List.map_nil,Act.eval];rw[show tm.getD 8 undef=x from hx]) (f3 w) ⟨_,rfl,Ph.bs hN js bN⟩
 ·intro tm w y cl a8 hy bN
  obtain ⟨a,s',x,gy,hr,rfl,sK,iI,bd⟩:=id bN
  obtain ⟨f1,f2,f3⟩:=fx a x _ _ iI
  have hl:=bd.bx.lt
  refine cw w rfl rfl (.tmp 6) (.tmp 9) 46 rfl (g+1) sl.t sl.sz bt me ei oX sl.v sl.n sl.xs (a8 4 (by omega) (by kernel_rfl)) (bd.bx.own 0 sl hi) ⟨gy,0,none⟩ 1 1 x.cells.toList hy (by rw[Array.length_toList,f1];omega) (ep sK) f2 (by unfold maxLen;omega) (by have:(sl.n+1)*bt≤100001*1000:=Nat.mul_le_mul (by omega) rW;omega) (by omega) ?_
  intro v' w' h1 h2 h3
  exact ⟨v',rfl,Ph.app hr bd h2 h1 h3⟩
 ·intro tm w y cl cB dC hy bN
  have hB:=cK 3 y w bN
  obtain ⟨a,s',x,w2,hr,h1,h2,h3,h4⟩:=id bN
  obtain ⟨ya,yn,yc,rfl⟩:=aU h3
  refine eu rfl rfl _ (.tmp 12) (.tmp 10) rfl (dC 10 (by omega) (by omega)) hy (qN w (hB.row hi) (hB.frozen _)) ?_
  go_end0
  exact Ph.last hN js hi bN
theorem Nk {α:Type}{lo b g:Nat}{nm:ByteArray}{ss:List Slot}{N:(Nat→Prop)→World→Prop}{V W w0:World}{s:ax}{sl:Slot}{r:Except (Int×Int) (α×ax)}{N1:α→Value→(Nat→Prop)→World→Prop}{pm pr bt:Nat} (h:Ap lo b g 49 nm ss N V W s w0) (hN:aP N) (js:∀a x,aP (N1 a x)) (hi:ss[0]?=some sl) (eO:Fit 46 sl bt N1) (hn:sl.n≤100000)
  (fk:∀P w,N P w→∀c ∈ ([(pm,#[.pointer (some ⟨g,0,none⟩)],158),(pr,#[.pointer (some ⟨b,0,none⟩)],74)]:List (Nat×Array Value×TypeId)),aX c.1 c.2.1 c.2.2 P w) (db:∀w,Ap lo b g 49 nm ss N V W s w→Calls Tryz.prog 151 #[.pointer (some ⟨b,0,none⟩),.int .i64 3] w (CR lo b N1 w r)) :
  Calls Tryz.prog 152 #[.pointer (some ⟨pm,0,none⟩),.pointer (some ⟨pr,0,none⟩)] w0 (CP lo b g 49 nm ss N V W 0 sl r N1):=by
 obtain ⟨va,vn,vc,hv⟩:=aU (h.bx.own 0 sl hi)
 obtain ⟨ei,me,oX,rW,fx⟩:=eO
 have cK:=Ph.base (lo:=lo) (b:=b) (g:=g) (T:=49) (nm:=nm) (V:=V) (W:=W) (s:=s) (r:=r) (N1:=N1) fk hi
 have hd:=h.up hN (zE w0.heap.size w0).drew
 go_enter Tryz.func152,Tryz.ntmps152
 refine dv (z:=11) (N:=13) (c:=6) (by kernel_rfl) (fun k=>k+2) (fun k=>[.pointer (some ⟨g,0,none⟩),.pointer (some ⟨g,0,none⟩),.pointer (some ⟨g,0,none⟩),.pointer (some ⟨g,1,none⟩),sl.v,.pointer (some ⟨b,0,none⟩),undef,undef,undef,.pointer (some ⟨g,0,none⟩),.pointer (some ⟨g,1,none⟩)].getD k undef) (Ph lo b g 49 nm ss N V W s sl r N1) _ w0 rfl rfl (fun i j _ _ e=>by omega) (fun i hi=>by omega) (by kernel_rfl) (by omega) (by kernel_rfl) (by kernel_rfl) (by kernel_rfl) hd ?_ ?_ ?_ ?_ ?_
 ·intro k tm w hk hq cl cB a8 bN
  obtain ⟨ph,x,bN⟩:=bN
  have hB:=cK ph x w bN
  match k,hk with
  |0,_=>exact aY rfl rfl _ (.tmp 0) rfl (cB 0 (by intro i hi;omega)) (cT w (hB.cell (List.mem_cons_self ..) rfl)) ⟨rfl,rfl⟩
  |1,_=>exact aY rfl rfl _ (.tmp 0) rfl (cB 0 (by intro i hi;omega)) (cT w (hB.cell (List.mem_cons_self ..) rfl)) ⟨rfl,rfl⟩
  |2,_=>exact bc rfl rfl (.tmp 3) rfl (a8 1 (by omega) (by kernel_rfl)) ⟨rfl,rfl⟩
  |3,_=>exact bW rfl rfl _ (.tmp 4) _ rfl (a8 2 (by omega) (by kernel_rfl)) (jA w) ⟨rfl,rfl⟩
  |4,_=>exact aY rfl rfl _ (.tmp 5) rfl (a8 3 (by omega) (by kernel_rfl)) (by rw[hv];exact qZ w (by rw[←hv];exact hB.row hi)) ⟨rfl,rfl⟩
  |5,_=>exact aY rfl rfl _ (.tmp 1) rfl (cB 1 (by intro i hi;omega)) (dh w (hB.cell (zF _ (List.mem_cons_self ..)) rfl)) ⟨rfl,rfl⟩
  |6,_=>omega
  |7,_=>omega
  |8,_=>omega
  |9,_=>exact bc rfl rfl (.tmp 2) rfl (a8 0 (by omega) (by kernel_rfl)) ⟨rfl,rfl⟩
  |10,_=>exact bW rfl rfl _ (.tmp 11) _ rfl (a8 9 (by omega) (by kernel_rfl)) (jA w) ⟨rfl,rfl⟩
 ·intro tm w cl cB a8 bN
  have bd:Ap lo b g 49 nm ss N V W s w:=bN
  refine cE rfl rfl 151 (rN w) _ _ rfl #[.pointer (some ⟨b,0,none⟩),.int .i64 3] ?_ (db w bd) ?_
  ·simp only[List.map_toArray,List.map_cons,List.map_nil,Act.eval]
   rw[show tm.getD 7 undef=_ from a8 5 (by omega) (by kernel_rfl)]
   rfl
  ·intro e w' ky
   rcases Ph.call hN js bN ky with ⟨x,rfl,h1⟩|⟨y,hr,rfl,hs⟩
   ·exact .inl ⟨x,rfl,x,rfl,h1⟩
   ·exact .inr ⟨_,rfl,rfl,by unfold CP;rw[hr];exact ⟨rfl,hs⟩⟩
 ·intro tm w x cl hx bN
  obtain ⟨a,s',hr,iI,bd⟩:=id bN
  obtain ⟨f1,f2,f3⟩:=fx a x _ _ iI
  exact kh rfl rfl _ _ _ rfl #[(0,x)] (by simp only[List.map_toArray,List.map_cons,List.map_nil,Act.eval];rw[show tm.getD 8 undef=x from hx]) (f3 w) ⟨_,rfl,Ph.bs hN js bN⟩
 ·intro tm w y cl a8 hy bN
  obtain ⟨a,s',x,gy,hr,rfl,sK,iI,bd⟩:=id bN
  obtain ⟨f1,f2,f3⟩:=fx a x _ _ iI
  have hl:=bd.bx.lt
  refine cw w rfl rfl (.tmp 6) (.tmp 9) 46 rfl (g+1) sl.t sl.sz bt me ei oX sl.v sl.n sl.xs (a8 4 (by omega) (by kernel_rfl)) (bd.bx.own 0 sl hi) ⟨gy,0,none⟩ 1 1 x.cells.toList hy (by rw[Array.length_toList,f1];omega) (ep sK) f2 (by unfold maxLen;omega) (by have:(sl.n+1)*bt≤100001*1000:=Nat.mul_le_mul (by omega) rW;omega) (by omega) ?_
  intro v' w' h1 h2 h3
  exact ⟨v',rfl,Ph.app hr bd h2 h1 h3⟩
 ·intro tm w y cl cB dC hy bN
  have hB:=cK 3 y w bN
  obtain ⟨a,s',x,w2,hr,h1,h2,h3,h4⟩:=id bN
  obtain ⟨ya,yn,yc,rfl⟩:=aU h3
  refine eu rfl rfl _ (.tmp 12) (.tmp 10) rfl (dC 10 (by omega) (by omega)) hy (qN w (hB.row hi) (hB.frozen _)) ?_
  go_end0
  exact Ph.last hN js hi bN
theorem Nj {α:Type}{lo b g:Nat}{nm:ByteArray}{ss:List Slot}{N:(Nat→Prop)→World→Prop}{V W w0:World}{s:ax}{sl:Slot}{r:Except (Int×Int) (α×ax)}{N1:α→Value→(Nat→Prop)→World→Prop}{pm pr bt:Nat} (h:Ap lo b g 49 nm ss N V W s w0) (hN:aP N) (js:∀a x,aP (N1 a x)) (hi:ss[0]?=some sl) (eO:Fit 46 sl bt N1) (hn:sl.n≤100000)
  (fk:∀P w,N P w→∀c ∈ ([(pm,#[.pointer (some ⟨g,0,none⟩)],158),(pr,#[.pointer (some ⟨b,0,none⟩)],74)]:List (Nat×Array Value×TypeId)),aX c.1 c.2.1 c.2.2 P w) (db:∀w,Ap lo b g 49 nm ss N V W s w→Calls Tryz.prog 154 #[.pointer (some ⟨b,0,none⟩)] w (CR lo b N1 w r)) :
  Calls Tryz.prog 153 #[.pointer (some ⟨pm,0,none⟩),.pointer (some ⟨pr,0,none⟩)] w0 (CP lo b g 49 nm ss N V W 0 sl r N1):=by
 obtain ⟨va,vn,vc,hv⟩:=aU (h.bx.own 0 sl hi)
 obtain ⟨ei,me,oX,rW,fx⟩:=eO
 have cK:=Ph.base (lo:=lo) (b:=b) (g:=g) (T:=49) (nm:=nm) (V:=V) (W:=W) (s:=s) (r:=r) (N1:=N1) fk hi
 have hd:=h.up hN (zE w0.heap.size w0).drew
 go_enter Tryz.func153,Tryz.ntmps153
 refine dv (z:=11) (N:=13) (c:=6) (by kernel_rfl) (fun k=>k+2) (fun k=>[.pointer (some ⟨g,0,none⟩),.pointer (some ⟨g,0,none⟩),.pointer (some ⟨g,0,none⟩),.pointer (some ⟨g,1,none⟩),sl.v,.pointer (some ⟨b,0,none⟩),undef,undef,undef,.pointer (some ⟨g,0,none⟩),.pointer (some ⟨g,1,none⟩)].getD k undef) (Ph lo b g 49 nm ss N V W s sl r N1) _ w0 rfl rfl (fun i j _ _ e=>by omega) (fun i hi=>by omega) (by kernel_rfl) (by omega) (by kernel_rfl) (by kernel_rfl) (by kernel_rfl) hd ?_ ?_ ?_ ?_ ?_
 ·intro k tm w hk hq cl cB a8 bN
  obtain ⟨ph,x,bN⟩:=bN
  have hB:=cK ph x w bN
  match k,hk with
  |0,_=>exact aY rfl rfl _ (.tmp 0) rfl (cB 0 (by intro i hi;omega)) (cT w (hB.cell (List.mem_cons_self ..) rfl)) ⟨rfl,rfl⟩
  |1,_=>exact aY rfl rfl _ (.tmp 0) rfl (cB 0 (by intro i hi;omega)) (cT w (hB.cell (List.mem_cons_self ..) rfl)) ⟨rfl,rfl⟩
  |2,_=>exact bc rfl rfl (.tmp 3) rfl (a8 1 (by omega) (by kernel_rfl)) ⟨rfl,rfl⟩
  |3,_=>exact bW rfl rfl _ (.tmp 4) _ rfl (a8 2 (by omega) (by kernel_rfl)) (jA w) ⟨rfl,rfl⟩
  |4,_=>exact aY rfl rfl _ (.tmp 5) rfl (a8 3 (by omega) (by kernel_rfl)) (by rw[hv];exact qZ w (by rw[←hv];exact hB.row hi)) ⟨rfl,rfl⟩
  |5,_=>exact aY rfl rfl _ (.tmp 1) rfl (cB 1 (by intro i hi;omega)) (dh w (hB.cell (zF _ (List.mem_cons_self ..)) rfl)) ⟨rfl,rfl⟩
  |6,_=>omega
  |7,_=>omega
  |8,_=>omega
  |9,_=>exact bc rfl rfl (.tmp 2) rfl (a8 0 (by omega) (by kernel_rfl)) ⟨rfl,rfl⟩
  |10,_=>exact bW rfl rfl _ (.tmp 11) _ rfl (a8 9 (by omega) (by kernel_rfl)) (jA w) ⟨rfl,rfl⟩
 ·intro tm w cl cB a8 bN
  have bd:Ap lo b g 49 nm ss N V W s w:=bN
  refine cE rfl rfl 154 (zj w) _ _ rfl #[.pointer (some ⟨b,0,none⟩)] ?_ (db w bd) ?_
  ·simp only[List.map_toArray,List.map_cons,List.map_nil,Act.eval]
   rw[show tm.getD 7 undef=_ from a8 5 (by omega) (by kernel_rfl)]
   rfl
  ·intro e w' ky
   rcases Ph.call hN js bN ky with ⟨x,rfl,h1⟩|⟨y,hr,rfl,hs⟩
   ·exact .inl ⟨x,rfl,x,rfl,h1⟩
   ·exact .inr ⟨_,rfl,rfl,by unfold CP;rw[hr];exact ⟨rfl,hs⟩⟩
 ·intro tm w x cl hx bN
  obtain ⟨a,s',hr,iI,bd⟩:=id bN
  obtain ⟨f1,f2,f3⟩:=fx a x _ _ iI
  exact kh rfl rfl _ _ _ rfl #[(0,x)] (by simp only[List.map_toArray,List.map_cons,List.map_nil,Act.eval];rw[show tm.getD 8 undef=x from hx]) (f3 w) ⟨_,rfl,Ph.bs hN js bN⟩
 ·intro tm w y cl a8 hy bN
  obtain ⟨a,s',x,gy,hr,rfl,sK,iI,bd⟩:=id bN
  obtain ⟨f1,f2,f3⟩:=fx a x _ _ iI
  have hl:=bd.bx.lt
  refine cw w rfl rfl (.tmp 6) (.tmp 9) 46 rfl (g+1) sl.t sl.sz bt me ei oX sl.v sl.n sl.xs (a8 4 (by omega) (by kernel_rfl)) (bd.bx.own 0 sl hi) ⟨gy,0,none⟩ 1 1 x.cells.toList hy (by rw[Array.length_toList,f1];omega) (ep sK) f2 (by unfold maxLen;omega) (by have:(sl.n+1)*bt≤100001*1000:=Nat.mul_le_mul (by omega) rW;omega) (by omega) ?_
  intro v' w' h1 h2 h3
  exact ⟨v',rfl,Ph.app hr bd h2 h1 h3⟩
 ·intro tm w y cl cB dC hy bN
  have hB:=cK 3 y w bN
  obtain ⟨a,s',x,w2,hr,h1,h2,h3,h4⟩:=id bN
  obtain ⟨ya,yn,yc,rfl⟩:=aU h3
  refine eu rfl rfl _ (.tmp 12) (.tmp 10) rfl (dC 10 (by omega) (by omega)) hy (qN w (hB.row hi) (hB.frozen _)) ?_
  go_end0
  exact Ph.last hN js hi bN
theorem Nr {α:Type}{lo b g:Nat}{nm:ByteArray}{ss:List Slot}{N:(Nat→Prop)→World→Prop}{V W w0:World}{s:ax}{sl:Slot}{r:Except (Int×Int) (α×ax)}{N1:α→Value→(Nat→Prop)→World→Prop}{pm pr bt:Nat} (h:Ap lo b g 49 nm ss N V W s w0) (hN:aP N) (js:∀a x,aP (N1 a x)) (hi:ss[3]?=some sl) (eO:Fit 25 sl bt N1) (hn:sl.n≤100000)
  (fk:∀P w,N P w→∀c ∈ ([(pm,#[.pointer (some ⟨g,0,none⟩)],158),(pr,#[.pointer (some ⟨b,0,none⟩)],74)]:List (Nat×Array Value×TypeId)),aX c.1 c.2.1 c.2.2 P w) (db:∀w,Ap lo b g 49 nm ss N V W s w→Calls Tryz.prog 105 #[.pointer (some ⟨b,0,none⟩)] w (CR lo b N1 w r)) :
  Calls Tryz.prog 145 #[.pointer (some ⟨pm,0,none⟩),.pointer (some ⟨pr,0,none⟩)] w0 (CP lo b g 49 nm ss N V W 3 sl r N1):=by
 obtain ⟨va,vn,vc,hv⟩:=aU (h.bx.own 3 sl hi)
 obtain ⟨ei,me,oX,rW,fx⟩:=eO
 have cK:=Ph.base (lo:=lo) (b:=b) (g:=g) (T:=49) (nm:=nm) (V:=V) (W:=W) (s:=s) (r:=r) (N1:=N1) fk hi
 have hd:=h.up hN (zE w0.heap.size w0).drew
 go_enter Tryz.func145,Tryz.ntmps145
 refine dv (z:=11) (N:=13) (c:=6) (by kernel_rfl) (fun k=>k+2) (fun k=>[.pointer (some ⟨g,0,none⟩),.pointer (some ⟨g,0,none⟩),.pointer (some ⟨g,0,none⟩),.pointer (some ⟨g,4,none⟩),sl.v,.pointer (some ⟨b,0,none⟩),undef,undef,undef,.pointer (some ⟨g,0,none⟩),.pointer (some ⟨g,4,none⟩)].getD k undef) (Ph lo b g 49 nm ss N V W s sl r N1) _ w0 rfl rfl (fun i j _ _ e=>by omega) (fun i hi=>by omega) (by kernel_rfl) (by omega) (by kernel_rfl) (by kernel_rfl) (by kernel_rfl) hd ?_ ?_ ?_ ?_ ?_
 ·intro k tm w hk hq cl cB a8 bN
  obtain ⟨ph,x,bN⟩:=bN
  have hB:=cK ph x w bN
  match k,hk with
  |0,_=>exact aY rfl rfl _ (.tmp 0) rfl (cB 0 (by intro i hi;omega)) (cT w (hB.cell (List.mem_cons_self ..) rfl)) ⟨rfl,rfl⟩
  |1,_=>exact aY rfl rfl _ (.tmp 0) rfl (cB 0 (by intro i hi;omega)) (cT w (hB.cell (List.mem_cons_self ..) rfl)) ⟨rfl,rfl⟩
  |2,_=>exact bc rfl rfl (.tmp 3) rfl (a8 1 (by omega) (by kernel_rfl)) ⟨rfl,rfl⟩
  |3,_=>exact bW rfl rfl _ (.tmp 4) _ rfl (a8 2 (by omega) (by kernel_rfl)) (I4 w) ⟨rfl,rfl⟩
  |4,_=>exact aY rfl rfl _ (.tmp 5) rfl (a8 3 (by omega) (by kernel_rfl)) (by rw[hv];exact DS w (by rw[←hv];exact hB.row hi)) ⟨rfl,rfl⟩
  |5,_=>exact aY rfl rfl _ (.tmp 1) rfl (cB 1 (by intro i hi;omega)) (dh w (hB.cell (zF _ (List.mem_cons_self ..)) rfl)) ⟨rfl,rfl⟩
  |6,_=>omega
  |7,_=>omega
  |8,_=>omega
  |9,_=>exact bc rfl rfl (.tmp 2) rfl (a8 0 (by omega) (by kernel_rfl)) ⟨rfl,rfl⟩
  |10,_=>exact bW rfl rfl _ (.tmp 11) _ rfl (a8 9 (by omega) (by kernel_rfl)) (I4 w) ⟨rfl,rfl⟩
 ·intro tm w cl cB a8 bN
  have bd:Ap lo b g 49 nm ss N V W s w:=bN
  refine cE rfl rfl 105 (EA w) _ _ rfl #[.pointer (some ⟨b,0,none⟩)] ?_ (db w bd) ?_
  ·simp only[List.map_toArray,List.map_cons,List.map_nil,Act.eval]
   rw[show tm.getD 7 undef=_ from a8 5 (by omega) (by kernel_rfl)]
   rfl
  ·intro e w' ky
   rcases Ph.call hN js bN ky with ⟨x,rfl,h1⟩|⟨y,hr,rfl,hs⟩
   ·exact .inl ⟨x,rfl,x,rfl,h1⟩
   ·exact .inr ⟨_,rfl,rfl,by unfold CP;rw[hr];exact ⟨rfl,hs⟩⟩
 ·intro tm w x cl hx bN
  obtain ⟨a,s',hr,iI,bd⟩:=id bN
  obtain ⟨f1,f2,f3⟩:=fx a x _ _ iI
  exact kh rfl rfl _ _ _ rfl #[(0,x)] (by simp only[List.map_toArray,List.map_cons,List.map_nil,Act.eval];rw[show tm.getD 8 undef=x from hx]) (f3 w) ⟨_,rfl,Ph.bs hN js bN⟩
 ·intro tm w y cl a8 hy bN
  obtain ⟨a,s',x,gy,hr,rfl,sK,iI,bd⟩:=id bN
  obtain ⟨f1,f2,f3⟩:=fx a x _ _ iI
  have hl:=bd.bx.lt
  refine cw w rfl rfl (.tmp 6) (.tmp 9) 25 rfl (g+1) sl.t sl.sz bt me ei oX sl.v sl.n sl.xs (a8 4 (by omega) (by kernel_rfl)) (bd.bx.own 3 sl hi) ⟨gy,0,none⟩ 1 1 x.cells.toList hy (by rw[Array.length_toList,f1];omega) (ep sK) f2 (by unfold maxLen;omega) (by have:(sl.n+1)*bt≤100001*1000:=Nat.mul_le_mul (by omega) rW;omega) (by omega) ?_
  intro v' w' h1 h2 h3
  exact ⟨v',rfl,Ph.app hr bd h2 h1 h3⟩
 ·intro tm w y cl cB dC hy bN
  have hB:=cK 3 y w bN
  obtain ⟨a,s',x,w2,hr,h1,h2,h3,h4⟩:=id bN
  obtain ⟨ya,yn,yc,rfl⟩:=aU h3
  refine eu rfl rfl _ (.tmp 12) (.tmp 10) rfl (dC 10 (by omega) (by omega)) hy (Dq w (hB.row hi) (hB.frozen _)) ?_
  go_end0
  exact Ph.last hN js hi bN
theorem L4 {α:Type}{lo b g:Nat}{nm:ByteArray}{ss:List Slot}{N:(Nat→Prop)→World→Prop}{V W w0:World}{s:ax}{sl:Slot}{r:Except (Int×Int) (α×ax)}{N1:α→Value→(Nat→Prop)→World→Prop}{pm pr bt:Nat} (h:Ap lo b g 27 nm ss N V W s w0) (hN:aP N) (js:∀a x,aP (N1 a x)) (hi:ss[0]?=some sl) (eO:Fit 22 sl bt N1) (hn:sl.n≤100000)
  (fk:∀P w,N P w→∀c ∈ ([(pm,#[.pointer (some ⟨g,0,none⟩)],108),(pr,#[.pointer (some ⟨b,0,none⟩)],74)]:List (Nat×Array Value×TypeId)),aX c.1 c.2.1 c.2.2 P w) (db:∀w,Ap lo b g 27 nm ss N V W s w→Calls Tryz.prog 101 #[.pointer (some ⟨b,0,none⟩)] w (CR lo b N1 w r)) :
  Calls Tryz.prog 100 #[.pointer (some ⟨pm,0,none⟩),.pointer (some ⟨pr,0,none⟩)] w0 (CP lo b g 27 nm ss N V W 0 sl r N1):=by
 obtain ⟨va,vn,vc,hv⟩:=aU (h.bx.own 0 sl hi)
 obtain ⟨ei,me,oX,rW,fx⟩:=eO
 have cK:=Ph.base (lo:=lo) (b:=b) (g:=g) (T:=27) (nm:=nm) (V:=V) (W:=W) (s:=s) (r:=r) (N1:=N1) fk hi
 have hd:=h.up hN (zE w0.heap.size w0).drew
 go_enter Tryz.func100,Tryz.ntmps100
 refine dv (z:=11) (N:=13) (c:=6) (by kernel_rfl) (fun k=>k+2) (fun k=>[.pointer (some ⟨g,0,none⟩),.pointer (some ⟨g,0,none⟩),.pointer (some ⟨g,0,none⟩),.pointer (some ⟨g,1,none⟩),sl.v,.pointer (some ⟨b,0,none⟩),undef,undef,undef,.pointer (some ⟨g,0,none⟩),.pointer (some ⟨g,1,none⟩)].getD k undef) (Ph lo b g 27 nm ss N V W s sl r N1) _ w0 rfl rfl (fun i j _ _ e=>by omega) (fun i hi=>by omega) (by kernel_rfl) (by omega) (by kernel_rfl) (by kernel_rfl) (by kernel_rfl) hd ?_ ?_ ?_ ?_ ?_
 ·intro k tm w hk hq cl cB a8 bN
  obtain ⟨ph,x,bN⟩:=bN
  have hB:=cK ph x w bN
  match k,hk with
  |0,_=>exact aY rfl rfl _ (.tmp 0) rfl (cB 0 (by intro i hi;omega)) (ie w (hB.cell (List.mem_cons_self ..) rfl)) ⟨rfl,rfl⟩
  |1,_=>exact aY rfl rfl _ (.tmp 0) rfl (cB 0 (by intro i hi;omega)) (ie w (hB.cell (List.mem_cons_self ..) rfl)) ⟨rfl,rfl⟩
  |2,_=>exact bc rfl rfl (.tmp 3) rfl (a8 1 (by omega) (by kernel_rfl)) ⟨rfl,rfl⟩
  |3,_=>exact bW rfl rfl _ (.tmp 4) _ rfl (a8 2 (by omega) (by kernel_rfl)) (Ei w) ⟨rfl,rfl⟩
  |4,_=>exact aY rfl rfl _ (.tmp 5) rfl (a8 3 (by omega) (by kernel_rfl)) (by rw[hv];exact xp w (by rw[←hv];exact hB.row hi)) ⟨rfl,rfl⟩
  |5,_=>exact aY rfl rfl _ (.tmp 1) rfl (cB 1 (by intro i hi;omega)) (dh w (hB.cell (zF _ (List.mem_cons_self ..)) rfl)) ⟨rfl,rfl⟩
  |6,_=>omega
  |7,_=>omega
  |8,_=>omega
  |9,_=>exact bc rfl rfl (.tmp 2) rfl (a8 0 (by omega) (by kernel_rfl)) ⟨rfl,rfl⟩
  |10,_=>exact bW rfl rfl _ (.tmp 11) _ rfl (a8 9 (by omega) (by kernel_rfl)) (Ei w) ⟨rfl,rfl⟩
 ·intro tm w cl cB a8 bN
  have bd:Ap lo b g 27 nm ss N V W s w:=bN
  refine cE rfl rfl 101 (Cu w) _ _ rfl #[.pointer (some ⟨b,0,none⟩)] ?_ (db w bd) ?_
  ·simp only[List.map_toArray,List.map_cons,List.map_nil,Act.eval]
   rw[show tm.getD 7 undef=_ from a8 5 (by omega) (by kernel_rfl)]
   rfl
  ·intro e w' ky
   rcases Ph.call hN js bN ky with ⟨x,rfl,h1⟩|⟨y,hr,rfl,hs⟩
   ·exact .inl ⟨x,rfl,x,rfl,h1⟩
   ·exact .inr ⟨_,rfl,rfl,by unfold CP;rw[hr];exact ⟨rfl,hs⟩⟩
 ·intro tm w x cl hx bN
  obtain ⟨a,s',hr,iI,bd⟩:=id bN
  obtain ⟨f1,f2,f3⟩:=fx a x _ _ iI
  exact kh rfl rfl _ _ _ rfl #[(0,x)] (by simp only[List.map_toArray,List.map_cons,List.map_nil,Act.eval];rw[show tm.getD 8 undef=x from hx]) (f3 w) ⟨_,rfl,Ph.bs hN js bN⟩
 ·intro tm w y cl a8 hy bN
  obtain ⟨a,s',x,gy,hr,rfl,sK,iI,bd⟩:=id bN
  obtain ⟨f1,f2,f3⟩:=fx a x _ _ iI
  have hl:=bd.bx.lt
  refine cw w rfl rfl (.tmp 6) (.tmp 9) 22 rfl (g+1) sl.t sl.sz bt me ei oX sl.v sl.n sl.xs (a8 4 (by omega) (by kernel_rfl)) (bd.bx.own 0 sl hi) ⟨gy,0,none⟩ 1 1 x.cells.toList hy (by rw[Array.length_toList,f1];omega) (ep sK) f2 (by unfold maxLen;omega) (by have:(sl.n+1)*bt≤100001*1000:=Nat.mul_le_mul (by omega) rW;omega) (by omega) ?_
  intro v' w' h1 h2 h3
  exact ⟨v',rfl,Ph.app hr bd h2 h1 h3⟩
 ·intro tm w y cl cB dC hy bN
  have hB:=cK 3 y w bN
  obtain ⟨a,s',x,w2,hr,h1,h2,h3,h4⟩:=id bN
  obtain ⟨ya,yn,yc,rfl⟩:=aU h3
  refine eu rfl rfl _ (.tmp 12) (.tmp 10) rfl (dC 10 (by omega) (by omega)) hy (BA w (hB.row hi) (hB.frozen _)) ?_
  go_end0
  exact Ph.last hN js hi bN
theorem L3 {α:Type}{lo b g:Nat}{nm:ByteArray}{ss:List Slot}{N:(Nat→Prop)→World→Prop}{V W w0:World}{s:ax}{sl:Slot}{r:Except (Int×Int) (α×ax)}{N1:α→Value→(Nat→Prop)→World→Prop}{pm pr bt:Nat} (h:Ap lo b g 27 nm ss N V W s w0) (hN:aP N) (js:∀a x,aP (N1 a x)) (hi:ss[2]?=some sl) (eO:Fit 25 sl bt N1) (hn:sl.n≤100000)
  (fk:∀P w,N P w→∀c ∈ ([(pm,#[.pointer (some ⟨g,0,none⟩)],108),(pr,#[.pointer (some ⟨b,0,none⟩)],74)]:List (Nat×Array Value×TypeId)),aX c.1 c.2.1 c.2.2 P w) (db:∀w,Ap lo b g 27 nm ss N V W s w→Calls Tryz.prog 105 #[.pointer (some ⟨b,0,none⟩)] w (CR lo b N1 w r)) :
  Calls Tryz.prog 104 #[.pointer (some ⟨pm,0,none⟩),.pointer (some ⟨pr,0,none⟩)] w0 (CP lo b g 27 nm ss N V W 2 sl r N1):=by
 obtain ⟨va,vn,vc,hv⟩:=aU (h.bx.own 2 sl hi)
 obtain ⟨ei,me,oX,rW,fx⟩:=eO
 have cK:=Ph.base (lo:=lo) (b:=b) (g:=g) (T:=27) (nm:=nm) (V:=V) (W:=W) (s:=s) (r:=r) (N1:=N1) fk hi
 have hd:=h.up hN (zE w0.heap.size w0).drew
 go_enter Tryz.func104,Tryz.ntmps104
 refine dv (z:=11) (N:=13) (c:=6) (by kernel_rfl) (fun k=>k+2) (fun k=>[.pointer (some ⟨g,0,none⟩),.pointer (some ⟨g,0,none⟩),.pointer (some ⟨g,0,none⟩),.pointer (some ⟨g,3,none⟩),sl.v,.pointer (some ⟨b,0,none⟩),undef,undef,undef,.pointer (some ⟨g,0,none⟩),.pointer (some ⟨g,3,none⟩)].getD k undef) (Ph lo b g 27 nm ss N V W s sl r N1) _ w0 rfl rfl (fun i j _ _ e=>by omega) (fun i hi=>by omega) (by kernel_rfl) (by omega) (by kernel_rfl) (by kernel_rfl) (by kernel_rfl) hd ?_ ?_ ?_ ?_ ?_
 ·intro k tm w hk hq cl cB a8 bN
  obtain ⟨ph,x,bN⟩:=bN
  have hB:=cK ph x w bN
  match k,hk with
  |0,_=>exact aY rfl rfl _ (.tmp 0) rfl (cB 0 (by intro i hi;omega)) (ie w (hB.cell (List.mem_cons_self ..) rfl)) ⟨rfl,rfl⟩
  |1,_=>exact aY rfl rfl _ (.tmp 0) rfl (cB 0 (by intro i hi;omega)) (ie w (hB.cell (List.mem_cons_self ..) rfl)) ⟨rfl,rfl⟩
  |2,_=>exact bc rfl rfl (.tmp 3) rfl (a8 1 (by omega) (by kernel_rfl)) ⟨rfl,rfl⟩
  |3,_=>exact bW rfl rfl _ (.tmp 4) _ rfl (a8 2 (by omega) (by kernel_rfl)) (Eh w) ⟨rfl,rfl⟩
  |4,_=>exact aY rfl rfl _ (.tmp 5) rfl (a8 3 (by omega) (by kernel_rfl)) (by rw[hv];exact DS w (by rw[←hv];exact hB.row hi)) ⟨rfl,rfl⟩
  |5,_=>exact aY rfl rfl _ (.tmp 1) rfl (cB 1 (by intro i hi;omega)) (dh w (hB.cell (zF _ (List.mem_cons_self ..)) rfl)) ⟨rfl,rfl⟩
  |6,_=>omega
  |7,_=>omega
  |8,_=>omega
  |9,_=>exact bc rfl rfl (.tmp 2) rfl (a8 0 (by omega) (by kernel_rfl)) ⟨rfl,rfl⟩
  |10,_=>exact bW rfl rfl _ (.tmp 11) _ rfl (a8 9 (by omega) (by kernel_rfl)) (Eh w) ⟨rfl,rfl⟩
 ·intro tm w cl cB a8 bN
  have bd:Ap lo b g 27 nm ss N V W s w:=bN
  refine cE rfl rfl 105 (EA w) _ _ rfl #[.pointer (some ⟨b,0,none⟩)] ?_ (db w bd) ?_
  ·simp only[List.map_toArray,List.map_cons,List.map_nil,Act.eval]
   rw[show tm.getD 7 undef=_ from a8 5 (by omega) (by kernel_rfl)]
   rfl
  ·intro e w' ky
   rcases Ph.call hN js bN ky with ⟨x,rfl,h1⟩|⟨y,hr,rfl,hs⟩
   ·exact .inl ⟨x,rfl,x,rfl,h1⟩
   ·exact .inr ⟨_,rfl,rfl,by unfold CP;rw[hr];exact ⟨rfl,hs⟩⟩
 ·intro tm w x cl hx bN
  obtain ⟨a,s',hr,iI,bd⟩:=id bN
  obtain ⟨f1,f2,f3⟩:=fx a x _ _ iI
  exact kh rfl rfl _ _ _ rfl #[(0,x)] (by simp only[List.map_toArray,List.map_cons,List.map_nil,Act.eval];rw[show tm.getD 8 undef=x from hx]) (f3 w) ⟨_,rfl,Ph.bs hN js bN⟩
 ·intro tm w y cl a8 hy bN
  obtain ⟨a,s',x,gy,hr,rfl,sK,iI,bd⟩:=id bN
  obtain ⟨f1,f2,f3⟩:=fx a x _ _ iI
  have hl:=bd.bx.lt
  refine cw w rfl rfl (.tmp 6) (.tmp 9) 25 rfl (g+1) sl.t sl.sz bt me ei oX sl.v sl.n sl.xs (a8 4 (by omega) (by kernel_rfl)) (bd.bx.own 2 sl hi) ⟨gy,0,none⟩ 1 1 x.cells.toList hy (by rw[Array.length_toList,f1];omega) (ep sK) f2 (by unfold maxLen;omega) (by have:(sl.n+1)*bt≤100001*1000:=Nat.mul_le_mul (by omega) rW;omega) (by omega) ?_
  intro v' w' h1 h2 h3
  exact ⟨v',rfl,Ph.app hr bd h2 h1 h3⟩
 ·intro tm w y cl cB dC hy bN
  have hB:=cK 3 y w bN
  obtain ⟨a,s',x,w2,hr,h1,h2,h3,h4⟩:=id bN
  obtain ⟨ya,yn,yc,rfl⟩:=aU h3
  refine eu rfl rfl _ (.tmp 12) (.tmp 10) rfl (dC 10 (by omega) (by omega)) hy (Dq w (hB.row hi) (hB.frozen _)) ?_
  go_end0
  exact Ph.last hN js hi bN
theorem M5 {α:Type}{lo b g:Nat}{nm:ByteArray}{ss:List Slot}{N:(Nat→Prop)→World→Prop}{V W w0:World}{s:ax}{sl:Slot}{r:Except (Int×Int) (α×ax)}{N1:α→Value→(Nat→Prop)→World→Prop}{pr bt:Nat} (h:Ap lo b g 49 nm ss N V W s w0) (hN:aP N) (js:∀a x,aP (N1 a x)) (hi:ss[0]?=some sl) (eO:Fit 46 sl bt N1) (hn:sl.n≤100000)
  (fk:∀P w,N P w→∀c ∈ ([(pr,#[.pointer (some ⟨b,0,none⟩)],74)]:List (Nat×Array Value×TypeId)),aX c.1 c.2.1 c.2.2 P w) (db:∀w,Ap lo b g 49 nm ss N V W s w→Calls Tryz.prog 127 #[.pointer (some ⟨b,0,none⟩),.int .i64 0] w (CR lo b N1 w r)) :
  Calls Tryz.prog 126 #[.pointer (some ⟨g,0,none⟩),.pointer (some ⟨pr,0,none⟩)] w0 (CP lo b g 49 nm ss N V W 0 sl r N1):=by
 obtain ⟨va,vn,vc,hv⟩:=aU (h.bx.own 0 sl hi)
 obtain ⟨ei,me,oX,rW,fx⟩:=eO
 have cK:=Ph.base (lo:=lo) (b:=b) (g:=g) (T:=49) (nm:=nm) (V:=V) (W:=W) (s:=s) (r:=r) (N1:=N1) fk hi
 have hd:=h.up hN (zE w0.heap.size w0).drew
 go_enter Tryz.func126,Tryz.ntmps126
 refine dv (z:=7) (N:=9) (c:=3) (by kernel_rfl) (fun k=>k+2) (fun k=>[.pointer (some ⟨g,1,none⟩),sl.v,.pointer (some ⟨b,0,none⟩),undef,undef,undef,.pointer (some ⟨g,1,none⟩)].getD k undef) (Ph lo b g 49 nm ss N V W s sl r N1) _ w0 rfl rfl (fun i j _ _ e=>by omega) (fun i hi=>by omega) (by kernel_rfl) (by omega) (by kernel_rfl) (by kernel_rfl) (by kernel_rfl) hd ?_ ?_ ?_ ?_ ?_
 ·intro k tm w hk hq cl cB a8 bN
  obtain ⟨ph,x,bN⟩:=bN
  have hB:=cK ph x w bN
  match k,hk with
  |0,_=>exact bW rfl rfl _ (.tmp 0) _ rfl (cB 0 (by intro i hi;omega)) (jA w) ⟨rfl,rfl⟩
  |1,_=>exact aY rfl rfl _ (.tmp 2) rfl (a8 0 (by omega) (by kernel_rfl)) (by rw[hv];exact qZ w (by rw[←hv];exact hB.row hi)) ⟨rfl,rfl⟩
  |2,_=>exact aY rfl rfl _ (.tmp 1) rfl (cB 1 (by intro i hi;omega)) (dh w (hB.cell (List.mem_cons_self ..) rfl)) ⟨rfl,rfl⟩
  |3,_=>omega
  |4,_=>omega
  |5,_=>omega
  |6,_=>exact bW rfl rfl _ (.tmp 0) _ rfl (cB 0 (by intro i hi;omega)) (jA w) ⟨rfl,rfl⟩
 ·intro tm w cl cB a8 bN
  have bd:Ap lo b g 49 nm ss N V W s w:=bN
  refine cE rfl rfl 127 (Be w) _ _ rfl #[.pointer (some ⟨b,0,none⟩),.int .i64 0] ?_ (db w bd) ?_
  ·simp only[List.map_toArray,List.map_cons,List.map_nil,Act.eval]
   rw[show tm.getD 4 undef=_ from a8 2 (by omega) (by kernel_rfl)]
   rfl
  ·intro e w' ky
   rcases Ph.call hN js bN ky with ⟨x,rfl,h1⟩|⟨y,hr,rfl,hs⟩
   ·exact .inl ⟨x,rfl,x,rfl,h1⟩
   ·exact .inr ⟨_,rfl,rfl,by unfold CP;rw[hr];exact ⟨rfl,hs⟩⟩
 ·intro tm w x cl hx bN
  obtain ⟨a,s',hr,iI,bd⟩:=id bN
  obtain ⟨f1,f2,f3⟩:=fx a x _ _ iI
  exact kh rfl rfl _ _ _ rfl #[(0,x)] (by simp only[List.map_toArray,List.map_cons,List.map_nil,Act.eval];rw[show tm.getD 5 undef=x from hx]) (f3 w) ⟨_,rfl,Ph.bs hN js bN⟩
 ·intro tm w y cl a8 hy bN
  obtain ⟨a,s',x,gy,hr,rfl,sK,iI,bd⟩:=id bN
  obtain ⟨f1,f2,f3⟩:=fx a x _ _ iI
  have hl:=bd.bx.lt
  refine cw w rfl rfl (.tmp 3) (.tmp 6) 46 rfl (g+1) sl.t sl.sz bt me ei oX sl.v sl.n sl.xs (a8 1 (by omega) (by kernel_rfl)) (bd.bx.own 0 sl hi) ⟨gy,0,none⟩ 1 1 x.cells.toList hy (by rw[Array.length_toList,f1];omega) (ep sK) f2 (by unfold maxLen;omega) (by have:(sl.n+1)*bt≤100001*1000:=Nat.mul_le_mul (by omega) rW;omega) (by omega) ?_
  intro v' w' h1 h2 h3
  exact ⟨v',rfl,Ph.app hr bd h2 h1 h3⟩
 ·intro tm w y cl cB dC hy bN
  have hB:=cK 3 y w bN
  obtain ⟨a,s',x,w2,hr,h1,h2,h3,h4⟩:=id bN
  obtain ⟨ya,yn,yc,rfl⟩:=aU h3
  refine eu rfl rfl _ (.tmp 8) (.tmp 7) rfl (dC 6 (by omega) (by omega)) hy (qN w (hB.row hi) (hB.frozen _)) ?_
  go_end0
  exact Ph.last hN js hi bN
theorem KZ {α:Type}{lo b g:Nat}{nm:ByteArray}{ss:List Slot}{N:(Nat→Prop)→World→Prop}{V W w0:World}{s:ax}{sl:Slot}{r:Except (Int×Int) (α×ax)}{N1:α→Value→(Nat→Prop)→World→Prop}{pr bt:Nat} (h:Ap lo b g 71 nm ss N V W s w0) (hN:aP N) (js:∀a x,aP (N1 a x)) (hi:ss[0]?=some sl) (eO:Fit 69 sl bt N1) (hn:sl.n≤100000)
  (fk:∀P w,N P w→∀c ∈ ([(pr,#[.pointer (some ⟨b,0,none⟩)],74)]:List (Nat×Array Value×TypeId)),aX c.1 c.2.1 c.2.2 P w) (db:∀w,Ap lo b g 71 nm ss N V W s w→Calls Tryz.prog 130 #[.pointer (some ⟨b,0,none⟩)] w (CR lo b N1 w r)) :
  Calls Tryz.prog 129 #[.pointer (some ⟨g,0,none⟩),.pointer (some ⟨pr,0,none⟩)] w0 (CP lo b g 71 nm ss N V W 0 sl r N1):=by
 obtain ⟨va,vn,vc,hv⟩:=aU (h.bx.own 0 sl hi)
 obtain ⟨ei,me,oX,rW,fx⟩:=eO
 have cK:=Ph.base (lo:=lo) (b:=b) (g:=g) (T:=71) (nm:=nm) (V:=V) (W:=W) (s:=s) (r:=r) (N1:=N1) fk hi
 have hd:=h.up hN (zE w0.heap.size w0).drew
 go_enter Tryz.func129,Tryz.ntmps129
 refine dv (z:=7) (N:=9) (c:=3) (by kernel_rfl) (fun k=>k+2) (fun k=>[.pointer (some ⟨g,1,none⟩),sl.v,.pointer (some ⟨b,0,none⟩),undef,undef,undef,.pointer (some ⟨g,1,none⟩)].getD k undef) (Ph lo b g 71 nm ss N V W s sl r N1) _ w0 rfl rfl (fun i j _ _ e=>by omega) (fun i hi=>by omega) (by kernel_rfl) (by omega) (by kernel_rfl) (by kernel_rfl) (by kernel_rfl) hd ?_ ?_ ?_ ?_ ?_
 ·intro k tm w hk hq cl cB a8 bN
  obtain ⟨ph,x,bN⟩:=bN
  have hB:=cK ph x w bN
  match k,hk with
  |0,_=>exact bW rfl rfl _ (.tmp 0) _ rfl (cB 0 (by intro i hi;omega)) (A4 w) ⟨rfl,rfl⟩
  |1,_=>exact aY rfl rfl _ (.tmp 2) rfl (a8 0 (by omega) (by kernel_rfl)) (by rw[hv];exact Rt w (by rw[←hv];exact hB.row hi)) ⟨rfl,rfl⟩
  |2,_=>exact aY rfl rfl _ (.tmp 1) rfl (cB 1 (by intro i hi;omega)) (dh w (hB.cell (List.mem_cons_self ..) rfl)) ⟨rfl,rfl⟩
  |3,_=>omega
  |4,_=>omega
  |5,_=>omega
  |6,_=>exact bW rfl rfl _ (.tmp 0) _ rfl (cB 0 (by intro i hi;omega)) (A4 w) ⟨rfl,rfl⟩
 ·intro tm w cl cB a8 bN
  have bd:Ap lo b g 71 nm ss N V W s w:=bN
  refine cE rfl rfl 130 (Lc w) _ _ rfl #[.pointer (some ⟨b,0,none⟩)] ?_ (db w bd) ?_
  ·simp only[List.map_toArray,List.map_cons,List.map_nil,Act.eval]
   rw[show tm.getD 4 undef=_ from a8 2 (by omega) (by kernel_rfl)]
   rfl
  ·intro e w' ky
   rcases Ph.call hN js bN ky with ⟨x,rfl,h1⟩|⟨y,hr,rfl,hs⟩
   ·exact .inl ⟨x,rfl,x,rfl,h1⟩
   ·exact .inr ⟨_,rfl,rfl,by unfold CP;rw[hr];exact ⟨rfl,hs⟩⟩
 ·intro tm w x cl hx bN
  obtain ⟨a,s',hr,iI,bd⟩:=id bN
  obtain ⟨f1,f2,f3⟩:=fx a x _ _ iI
  exact kh rfl rfl _ _ _ rfl #[(0,x)] (by simp only[List.map_toArray,List.map_cons,List.map_nil,Act.eval];rw[show tm.getD 5 undef=x from hx]) (f3 w) ⟨_,rfl,Ph.bs hN js bN⟩
 ·intro tm w y cl a8 hy bN
  obtain ⟨a,s',x,gy,hr,rfl,sK,iI,bd⟩:=id bN
  obtain ⟨f1,f2,f3⟩:=fx a x _ _ iI
  have hl:=bd.bx.lt
  refine cw w rfl rfl (.tmp 3) (.tmp 6) 69 rfl (g+1) sl.t sl.sz bt me ei oX sl.v sl.n sl.xs (a8 1 (by omega) (by kernel_rfl)) (bd.bx.own 0 sl hi) ⟨gy,0,none⟩ 1 1 x.cells.toList hy (by rw[Array.length_toList,f1];omega) (ep sK) f2 (by unfold maxLen;omega) (by have:(sl.n+1)*bt≤100001*1000:=Nat.mul_le_mul (by omega) rW;omega) (by omega) ?_
  intro v' w' h1 h2 h3
  exact ⟨v',rfl,Ph.app hr bd h2 h1 h3⟩
 ·intro tm w y cl cB dC hy bN
  have hB:=cK 3 y w bN
  obtain ⟨a,s',x,w2,hr,h1,h2,h3,h4⟩:=id bN
  obtain ⟨ya,yn,yc,rfl⟩:=aU h3
  refine eu rfl rfl _ (.tmp 8) (.tmp 7) rfl (dC 6 (by omega) (by omega)) hy (QH w (hB.row hi) (hB.frozen _)) ?_
  go_end0
  exact Ph.last hN js hi bN
theorem bZ {w:World}{bs e z n:Nat}{v:Value}{xs:List Value} (h:w.ownsRow bs e z v n xs):∃a c,v=.slice a n c:=by
 rcases h.2 with ⟨rfl,h0⟩|⟨g,c,_,rfl,_⟩
 ·exact ⟨_,_,by rw[h0]⟩
 ·exact ⟨_,_,rfl⟩
theorem Km (w:World) {p:Nat}{l h:Int}{m:Bool} (h0:w.cell? ⟨p,0,none⟩=some (.int .i64 l)) (h1:w.cell? ⟨p,1,none⟩=some (.int .i64 h)) (h2:w.cell? ⟨p,2,none⟩=some (.bool m)):(Instr.loadAt 175 (.pointer (some ⟨p,0,none⟩))).run Tryz.prog w=.ok (.agg #[.int .i64 l,.int .i64 h,.bool m]) w:=by
 go_simp
theorem FQ {α:Type}{lo b g:Nat}{nm:ByteArray}{ss:List Slot}{N:(Nat→Prop)→World→Prop}{V W w0:World}{s:ax}{sl:Slot}{r:Except (Int×Int) (α×ax)}{N1:α→Value→(Nat→Prop)→World→Prop}{pm pr bt:Nat}{so:Slot} (ho:ss[1]?=some so) (h:Ap lo b g 49 nm ss N V W s w0) (hN:aP N) (js:∀a x,aP (N1 a x)) (hi:ss[0]?=some sl) (eO:Fit 46 sl bt N1) (hn:sl.n≤100000)
  (fk:∀P w,N P w→∀c ∈ ([(pm,#[.pointer (some ⟨g,0,none⟩)],158),(pr,#[.pointer (some ⟨b,0,none⟩)],74)]:List (Nat×Array Value×TypeId)),aX c.1 c.2.1 c.2.2 P w) (db:∀w,Ap lo b g 49 nm ss N V W s w→Calls Tryz.prog 127 #[.pointer (some ⟨b,0,none⟩),.int .i64 (so.n:Int)] w (CR lo b N1 w r)) :
  Calls Tryz.prog 170 #[.pointer (some ⟨pm,0,none⟩),.pointer (some ⟨pr,0,none⟩)] w0 (CP lo b g 49 nm ss N V W 0 sl r N1):=by
 obtain ⟨va,vn,vc,hv⟩:=aU (h.bx.own 0 sl hi)
 obtain ⟨ei,me,oX,rW,fx⟩:=eO
 have cK:=Ph.base (lo:=lo) (b:=b) (g:=g) (T:=49) (nm:=nm) (V:=V) (W:=W) (s:=s) (r:=r) (N1:=N1) fk hi
 have hd:=h.up hN (zE w0.heap.size w0).drew
 go_enter Tryz.func170,Tryz.ntmps170
 obtain ⟨oa,oc,hvo⟩:=bZ (h.bx.own 1 so ho)
 refine dv (z:=16) (N:=18) (c:=11) (by kernel_rfl) (fun k=>k+2) (fun k=>[.pointer (some ⟨g,0,none⟩),.pointer (some ⟨g,0,none⟩),.pointer (some ⟨g,0,none⟩),.pointer (some ⟨g,1,none⟩),sl.v,.pointer (some ⟨b,0,none⟩),.pointer (some ⟨g,0,none⟩),.pointer (some ⟨g,0,none⟩),.pointer (some ⟨g,2,none⟩),so.v,.int .i64 (so.n:Int),undef,undef,undef,.pointer (some ⟨g,0,none⟩),.pointer (some ⟨g,1,none⟩)].getD k undef) (Ph lo b g 49 nm ss N V W s sl r N1) _ w0 rfl rfl (fun i j _ _ e=>by omega) (fun i hi=>by omega) (by kernel_rfl) (by omega) (by kernel_rfl) (by kernel_rfl) (by kernel_rfl) hd ?_ ?_ ?_ ?_ ?_
 ·intro k tm w hk hq cl cB a8 bN
  obtain ⟨ph,x,bN⟩:=bN
  have hB:=cK ph x w bN
  match k,hk with
  |0,_=>exact aY rfl rfl _ (.tmp 0) rfl (cB 0 (by intro i hi;omega)) (cT w (hB.cell (List.mem_cons_self ..) rfl)) ⟨rfl,rfl⟩
  |1,_=>exact aY rfl rfl _ (.tmp 0) rfl (cB 0 (by intro i hi;omega)) (cT w (hB.cell (List.mem_cons_self ..) rfl)) ⟨rfl,rfl⟩
  |2,_=>exact bc rfl rfl (.tmp 3) rfl (a8 1 (by omega) (by kernel_rfl)) ⟨rfl,rfl⟩
  |3,_=>exact bW rfl rfl _ (.tmp 4) _ rfl (a8 2 (by omega) (by kernel_rfl)) (jA w) ⟨rfl,rfl⟩
  |4,_=>exact aY rfl rfl _ (.tmp 5) rfl (a8 3 (by omega) (by kernel_rfl)) (by rw[hv];exact qZ w (by rw[←hv];exact hB.row hi)) ⟨rfl,rfl⟩
  |5,_=>exact aY rfl rfl _ (.tmp 1) rfl (cB 1 (by intro i hi;omega)) (dh w (hB.cell (zF _ (List.mem_cons_self ..)) rfl)) ⟨rfl,rfl⟩
  |6,_=>exact aY rfl rfl _ (.tmp 0) rfl (cB 0 (by intro i hi;omega)) (cT w (hB.cell (List.mem_cons_self ..) rfl)) ⟨rfl,rfl⟩
  |7,_=>exact bc rfl rfl (.tmp 8) rfl (a8 6 (by omega) (by kernel_rfl)) ⟨rfl,rfl⟩
  |8,_=>exact bW rfl rfl _ (.tmp 9) _ rfl (a8 7 (by omega) (by kernel_rfl)) (Ce w) ⟨rfl,rfl⟩
  |9,_=>exact aY rfl rfl _ (.tmp 10) rfl (a8 8 (by omega) (by kernel_rfl)) (by rw[hvo];exact xp w (by rw[←hvo];exact hB.row ho)) ⟨rfl,rfl⟩
  |10,_=>exact FP rfl rfl (.tmp 11) 22 9 rfl Tryz.underlying22 ((a8 9 (by omega) (by kernel_rfl)).trans hvo) ⟨rfl,rfl⟩
  |11,_=>omega
  |12,_=>omega
  |13,_=>omega
  |14,_=>exact bc rfl rfl (.tmp 2) rfl (a8 0 (by omega) (by kernel_rfl)) ⟨rfl,rfl⟩
  |15,_=>exact bW rfl rfl _ (.tmp 16) _ rfl (a8 14 (by omega) (by kernel_rfl)) (jA w) ⟨rfl,rfl⟩
  |k+16,h=>omega
 ·intro tm w cl cB a8 bN
  have bd:Ap lo b g 49 nm ss N V W s w:=bN
  refine cE rfl rfl 127 (Be w) _ _ rfl #[.pointer (some ⟨b,0,none⟩),.int .i64 (so.n:Int)] ?_ (db w bd) ?_
  ·simp only[List.map_toArray,List.map_cons,List.map_nil,Act.eval]
   rw[show tm.getD 7 undef=_ from a8 5 (by omega) (by kernel_rfl),show tm.getD 12 undef=_ from a8 10 (by omega) (by kernel_rfl)]
   rfl
  ·intro e w' ky
   rcases Ph.call hN js bN ky with ⟨x,rfl,h1⟩|⟨y,hr,rfl,hs⟩
   ·exact .inl ⟨x,rfl,x,rfl,h1⟩
   ·exact .inr ⟨_,rfl,rfl,by unfold CP;rw[hr];exact ⟨rfl,hs⟩⟩
 ·intro tm w x cl hx bN
  obtain ⟨a,s',hr,iI,bd⟩:=id bN
  obtain ⟨f1,f2,f3⟩:=fx a x _ _ iI
  exact kh rfl rfl _ _ _ rfl #[(0,x)] (by simp only[List.map_toArray,List.map_cons,List.map_nil,Act.eval];rw[show tm.getD 13 undef=x from hx]) (f3 w) ⟨_,rfl,Ph.bs hN js bN⟩
 ·intro tm w y cl a8 hy bN
  obtain ⟨a,s',x,gy,hr,rfl,sK,iI,bd⟩:=id bN
  obtain ⟨f1,f2,f3⟩:=fx a x _ _ iI
  have hl:=bd.bx.lt
  refine cw w rfl rfl (.tmp 6) (.tmp 14) 46 rfl (g+1) sl.t sl.sz bt me ei oX sl.v sl.n sl.xs (a8 4 (by omega) (by kernel_rfl)) (bd.bx.own 0 sl hi) ⟨gy,0,none⟩ 1 1 x.cells.toList hy (by rw[Array.length_toList,f1];omega) (ep sK) f2 (by unfold maxLen;omega) (by have:(sl.n+1)*bt≤100001*1000:=Nat.mul_le_mul (by omega) rW;omega) (by omega) ?_
  intro v' w' h1 h2 h3
  exact ⟨v',rfl,Ph.app hr bd h2 h1 h3⟩
 ·intro tm w y cl cB dC hy bN
  have hB:=cK 3 y w bN
  obtain ⟨a,s',x,w2,hr,h1,h2,h3,h4⟩:=id bN
  obtain ⟨ya,yn,yc,rfl⟩:=aU h3
  refine eu rfl rfl _ (.tmp 17) (.tmp 15) rfl (dC 15 (by omega) (by omega)) hy (qN w (hB.row hi) (hB.frozen _)) ?_
  go_end0
  exact Ph.last hN js hi bN
theorem MA {α:Type}{lo b g:Nat}{nm:ByteArray}{ss:List Slot}{N:(Nat→Prop)→World→Prop}{V W w0:World}{s:ax}{sl:Slot}{r:Except (Int×Int) (α×ax)}{N1:α→Value→(Nat→Prop)→World→Prop}{pm pr bt:Nat}{T:TypeId}{i pb:Nat}{bl bh:Int}{bm:Bool} (h:Ap lo b g T nm ss N V W s w0) (hN:aP N) (js:∀a x,aP (N1 a x)) (hi:ss[i]?=some sl) (eO:Fit 47 sl bt N1) (hn:sl.n≤100000)
  (fk:∀P w,N P w→∀c ∈ ([(pm,#[.pointer (some ⟨g,i+1,none⟩)],176),(pr,#[.pointer (some ⟨b,0,none⟩)],74),(pb,#[.int .i64 bl,.int .i64 bh,.bool bm],175)]:List (Nat×Array Value×TypeId)),aX c.1 c.2.1 c.2.2 P w) (db:∀w,Ap lo b g T nm ss N V W s w→Calls Tryz.prog 172 #[.pointer (some ⟨b,0,none⟩),.agg #[.int .i64 bl,.int .i64 bh,.bool bm]] w (CR lo b N1 w r)) :
  Calls Tryz.prog 171 #[.pointer (some ⟨pm,0,none⟩),.pointer (some ⟨pr,0,none⟩),.pointer (some ⟨pb,0,none⟩)] w0 (CP lo b g T nm ss N V W i sl r N1):=by
 obtain ⟨va,vn,vc,hv⟩:=aU (h.bx.own i sl hi)
 obtain ⟨ei,me,oX,rW,fx⟩:=eO
 have cK:=Ph.base (lo:=lo) (b:=b) (g:=g) (T:=T) (nm:=nm) (V:=V) (W:=W) (s:=s) (r:=r) (N1:=N1) fk hi
 have hd:=h.up hN (zE w0.heap.size w0).drew
 go_enter Tryz.func171,Tryz.ntmps171
 refine dv (z:=10) (N:=13) (c:=6) (by kernel_rfl) (fun k=>k+3) (fun k=>[.pointer (some ⟨g,i+1,none⟩),.pointer (some ⟨g,i+1,none⟩),.pointer (some ⟨g,i+1,none⟩),sl.v,.pointer (some ⟨b,0,none⟩),.agg #[.int .i64 bl,.int .i64 bh,.bool bm],undef,undef,undef,.pointer (some ⟨g,i+1,none⟩)].getD k undef) (Ph lo b g T nm ss N V W s sl r N1) _ w0 rfl rfl (fun i j _ _ e=>by omega) (fun i hi=>by omega) (by kernel_rfl) (by omega) (by kernel_rfl) (by kernel_rfl) (by kernel_rfl) hd ?_ ?_ ?_ ?_ ?_
 ·intro k tm w hk hq cl cB a8 bN
  obtain ⟨ph,x,bN⟩:=bN
  have hB:=cK ph x w bN
  match k,hk with
  |0,_=>exact aY rfl rfl _ (.tmp 0) rfl (cB 0 (by intro i hi;omega)) (qY w (hB.cell (List.mem_cons_self ..) rfl)) ⟨rfl,rfl⟩
  |1,_=>exact aY rfl rfl _ (.tmp 0) rfl (cB 0 (by intro i hi;omega)) (qY w (hB.cell (List.mem_cons_self ..) rfl)) ⟨rfl,rfl⟩
  |2,_=>exact bc rfl rfl (.tmp 4) rfl (a8 1 (by omega) (by kernel_rfl)) ⟨rfl,rfl⟩
  |3,_=>exact aY rfl rfl _ (.tmp 5) rfl (a8 2 (by omega) (by kernel_rfl)) (by rw[hv];exact Kl w (by rw[←hv];exact hB.row hi)) ⟨rfl,rfl⟩
  |4,_=>exact aY rfl rfl _ (.tmp 1) rfl (cB 1 (by intro i hi;omega)) (dh w (hB.cell (zF _ (List.mem_cons_self ..)) rfl)) ⟨rfl,rfl⟩
  |5,_=>exact aY rfl rfl _ (.tmp 2) rfl (cB 2 (by intro i hi;omega)) (Km w (hB.cell (j:=0) (zF _ (zF _ (List.mem_cons_self ..))) rfl) (hB.cell (j:=1) (zF _ (zF _ (List.mem_cons_self ..))) rfl) (hB.cell (j:=2) (zF _ (zF _ (List.mem_cons_self ..))) rfl)) ⟨rfl,rfl⟩
  |6,_=>omega
  |7,_=>omega
  |8,_=>omega
  |9,_=>exact bc rfl rfl (.tmp 3) rfl (a8 0 (by omega) (by kernel_rfl)) ⟨rfl,rfl⟩
 ·intro tm w cl cB a8 bN
  have bd:Ap lo b g T nm ss N V W s w:=bN
  refine cE rfl rfl 172 (Sy w) _ _ rfl #[.pointer (some ⟨b,0,none⟩),.agg #[.int .i64 bl,.int .i64 bh,.bool bm]] ?_ (db w bd) ?_
  ·simp only[List.map_toArray,List.map_cons,List.map_nil,Act.eval]
   rw[show tm.getD 7 undef=_ from a8 4 (by omega) (by kernel_rfl),show tm.getD 8 undef=_ from a8 5 (by omega) (by kernel_rfl)]
   rfl
  ·intro e w' ky
   rcases Ph.call hN js bN ky with ⟨x,rfl,h1⟩|⟨y,hr,rfl,hs⟩
   ·exact .inl ⟨x,rfl,x,rfl,h1⟩
   ·exact .inr ⟨_,rfl,rfl,by unfold CP;rw[hr];exact ⟨rfl,hs⟩⟩
 ·intro tm w x cl hx bN
  obtain ⟨a,s',hr,iI,bd⟩:=id bN
  obtain ⟨f1,f2,f3⟩:=fx a x _ _ iI
  exact kh rfl rfl _ _ _ rfl #[(0,x)] (by simp only[List.map_toArray,List.map_cons,List.map_nil,Act.eval];rw[show tm.getD 9 undef=x from hx]) (f3 w) ⟨_,rfl,Ph.bs hN js bN⟩
 ·intro tm w y cl a8 hy bN
  obtain ⟨a,s',x,gy,hr,rfl,sK,iI,bd⟩:=id bN
  obtain ⟨f1,f2,f3⟩:=fx a x _ _ iI
  have hl:=bd.bx.lt
  refine cw w rfl rfl (.tmp 6) (.tmp 10) 47 rfl (g+1) sl.t sl.sz bt me ei oX sl.v sl.n sl.xs (a8 3 (by omega) (by kernel_rfl)) (bd.bx.own i sl hi) ⟨gy,0,none⟩ 1 1 x.cells.toList hy (by rw[Array.length_toList,f1];omega) (ep sK) f2 (by unfold maxLen;omega) (by have:(sl.n+1)*bt≤100001*1000:=Nat.mul_le_mul (by omega) rW;omega) (by omega) ?_
  intro v' w' h1 h2 h3
  exact ⟨v',rfl,Ph.app hr bd h2 h1 h3⟩
 ·intro tm w y cl cB dC hy bN
  have hB:=cK 3 y w bN
  obtain ⟨a,s',x,w2,hr,h1,h2,h3,h4⟩:=id bN
  obtain ⟨ya,yn,yc,rfl⟩:=aU h3
  refine eu rfl rfl _ (.tmp 12) (.tmp 11) rfl (dC 9 (by omega) (by omega)) hy (JU w (hB.row hi) (hB.frozen _)) ?_
  go_end0
  exact Ph.last hN js hi bN
theorem Mz {α:Type}{lo b g:Nat}{nm:ByteArray}{ss:List Slot}{N:(Nat→Prop)→World→Prop}{V W w0:World}{s:ax}{sl:Slot}{r:Except (Int×Int) (α×ax)}{N1:α→Value→(Nat→Prop)→World→Prop}{pm pr bt:Nat}{T:TypeId}{i:Nat} (h:Ap lo b g T nm ss N V W s w0) (hN:aP N) (js:∀a x,aP (N1 a x)) (hi:ss[i]?=some sl) (eO:Fit 22 sl bt N1) (hn:sl.n≤100000)
  (fk:∀P w,N P w→∀c ∈ ([(pm,#[.pointer (some ⟨g,i+1,none⟩)],177),(pr,#[.pointer (some ⟨b,0,none⟩)],74)]:List (Nat×Array Value×TypeId)),aX c.1 c.2.1 c.2.2 P w) (db:∀w,Ap lo b g T nm ss N V W s w→Calls Tryz.prog 174 #[.pointer (some ⟨b,0,none⟩)] w (CR lo b N1 w r)) :
  Calls Tryz.prog 173 #[.pointer (some ⟨pm,0,none⟩),.pointer (some ⟨pr,0,none⟩)] w0 (CP lo b g T nm ss N V W i sl r N1):=by
 obtain ⟨va,vn,vc,hv⟩:=aU (h.bx.own i sl hi)
 obtain ⟨ei,me,oX,rW,fx⟩:=eO
 have cK:=Ph.base (lo:=lo) (b:=b) (g:=g) (T:=T) (nm:=nm) (V:=V) (W:=W) (s:=s) (r:=r) (N1:=N1) fk hi
 have hd:=h.up hN (zE w0.heap.size w0).drew
 go_enter Tryz.func173,Tryz.ntmps173
 refine dv (z:=9) (N:=11) (c:=5) (by kernel_rfl) (fun k=>k+2) (fun k=>[.pointer (some ⟨g,i+1,none⟩),.pointer (some ⟨g,i+1,none⟩),.pointer (some ⟨g,i+1,none⟩),sl.v,.pointer (some ⟨b,0,none⟩),undef,undef,undef,.pointer (some ⟨g,i+1,none⟩)].getD k undef) (Ph lo b g T nm ss N V W s sl r N1) _ w0 rfl rfl (fun i j _ _ e=>by omega) (fun i hi=>by omega) (by kernel_rfl) (by omega) (by kernel_rfl) (by kernel_rfl) (by kernel_rfl) hd ?_ ?_ ?_ ?_ ?_
 ·intro k tm w hk hq cl cB a8 bN
  obtain ⟨ph,x,bN⟩:=bN
  have hB:=cK ph x w bN
  match k,hk with
  |0,_=>exact aY rfl rfl _ (.tmp 0) rfl (cB 0 (by intro i hi;omega)) (yF w (hB.cell (List.mem_cons_self ..) rfl)) ⟨rfl,rfl⟩
  |1,_=>exact aY rfl rfl _ (.tmp 0) rfl (cB 0 (by intro i hi;omega)) (yF w (hB.cell (List.mem_cons_self ..) rfl)) ⟨rfl,rfl⟩
  |2,_=>exact bc rfl rfl (.tmp 3) rfl (a8 1 (by omega) (by kernel_rfl)) ⟨rfl,rfl⟩
  |3,_=>exact aY rfl rfl _ (.tmp 4) rfl (a8 2 (by omega) (by kernel_rfl)) (by rw[hv];exact xp w (by rw[←hv];exact hB.row hi)) ⟨rfl,rfl⟩
  |4,_=>exact aY rfl rfl _ (.tmp 1) rfl (cB 1 (by intro i hi;omega)) (dh w (hB.cell (zF _ (List.mem_cons_self ..)) rfl)) ⟨rfl,rfl⟩
  |5,_=>omega
  |6,_=>omega
  |7,_=>omega
  |8,_=>exact bc rfl rfl (.tmp 2) rfl (a8 0 (by omega) (by kernel_rfl)) ⟨rfl,rfl⟩
 ·intro tm w cl cB a8 bN
  have bd:Ap lo b g T nm ss N V W s w:=bN
  refine cE rfl rfl 174 (Cv w) _ _ rfl #[.pointer (some ⟨b,0,none⟩)] ?_ (db w bd) ?_
  ·simp only[List.map_toArray,List.map_cons,List.map_nil,Act.eval]
   rw[show tm.getD 6 undef=_ from a8 4 (by omega) (by kernel_rfl)]
   rfl
  ·intro e w' ky
   rcases Ph.call hN js bN ky with ⟨x,rfl,h1⟩|⟨y,hr,rfl,hs⟩
   ·exact .inl ⟨x,rfl,x,rfl,h1⟩
   ·exact .inr ⟨_,rfl,rfl,by unfold CP;rw[hr];exact ⟨rfl,hs⟩⟩
 ·intro tm w x cl hx bN
  obtain ⟨a,s',hr,iI,bd⟩:=id bN
  obtain ⟨f1,f2,f3⟩:=fx a x _ _ iI
  exact kh rfl rfl _ _ _ rfl #[(0,x)] (by simp only[List.map_toArray,List.map_cons,List.map_nil,Act.eval];rw[show tm.getD 7 undef=x from hx]) (f3 w) ⟨_,rfl,Ph.bs hN js bN⟩
 ·intro tm w y cl a8 hy bN
  obtain ⟨a,s',x,gy,hr,rfl,sK,iI,bd⟩:=id bN
  obtain ⟨f1,f2,f3⟩:=fx a x _ _ iI
  have hl:=bd.bx.lt
  refine cw w rfl rfl (.tmp 5) (.tmp 8) 22 rfl (g+1) sl.t sl.sz bt me ei oX sl.v sl.n sl.xs (a8 3 (by omega) (by kernel_rfl)) (bd.bx.own i sl hi) ⟨gy,0,none⟩ 1 1 x.cells.toList hy (by rw[Array.length_toList,f1];omega) (ep sK) f2 (by unfold maxLen;omega) (by have:(sl.n+1)*bt≤100001*1000:=Nat.mul_le_mul (by omega) rW;omega) (by omega) ?_
  intro v' w' h1 h2 h3
  exact ⟨v',rfl,Ph.app hr bd h2 h1 h3⟩
 ·intro tm w y cl cB dC hy bN
  have hB:=cK 3 y w bN
  obtain ⟨a,s',x,w2,hr,h1,h2,h3,h4⟩:=id bN
  obtain ⟨ya,yn,yc,rfl⟩:=aU h3
  refine eu rfl rfl _ (.tmp 10) (.tmp 9) rfl (dC 8 (by omega) (by omega)) hy (BA w (hB.row hi) (hB.frozen _)) ?_
  go_end0
  exact Ph.last hN js hi bN
end Go.Proofs.YtjophoclfccmcaaGreatDoor

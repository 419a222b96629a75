import Derived.Test.YtjophoclfccmcaaGreatDoorM24
set_option maxHeartbeats 4000000
set_option maxRecDepth 100000
namespace Go.Proofs.YtjophoclfccmcaaGreatDoor
open Go.RowKit
attribute [local go_sem ↓] Go.wp_at_zero Go.wp_at_succ
theorem Ap.Ds {lo b g T:Nat}{nm:ByteArray}{ss:List Slot}{N:(Nat→Prop)→World→Prop}{V W w:World}{s:ax}{i k n:Nat}{t:TypeId}{v:Value}{xs:List Value}{z:Slot} (hz:ss[i]?=some z) (h:Ap lo b g T nm (ss.set i ⟨t,7,v,n+1,xs++iy.toList⟩) N V W s w) (hN:aP N) (hk:v.ownBlock=some k) (hn:xs.length=n*7) (u0 u1 u2 u3 u4 u5 u6:Value) :
  Ap lo b g T nm (ss.set i ⟨t,7,v,n+1,xs++[u0,u1,u2,u3,u4,u5,u6]⟩) N V W s (Ds w k (n*7) u0 u1 u2 u3 u4 u5 u6):=by
 have h0:=h.setRow hN (gh hz _) hk (n*7) u0
 rw[iO] at h0
 have h1:=h0.setRow hN (gh hz _) hk (n*7+1) u1
 rw[iO] at h1
 have h2:=h1.setRow hN (gh hz _) hk (n*7+2) u2
 rw[iO] at h2
 have h3:=h2.setRow hN (gh hz _) hk (n*7+3) u3
 rw[iO] at h3
 have h4:=h3.setRow hN (gh hz _) hk (n*7+4) u4
 rw[iO] at h4
 have h5:=h4.setRow hN (gh hz _) hk (n*7+5) u5
 rw[iO] at h5
 have h6:=h5.setRow hN (gh hz _) hk (n*7+6) u6
 rw[iO] at h6
 simp only at h6
 rw[show iy.toList=[.string ⟨#[]⟩,.slice none 0 0,.slice none 0 0,.slice none 0 0,.slice none 0 0,.slice none 0 0,.slice none 0 0] from rfl,JV xs n hn] at h6
 exact h6
theorem IZ {tm:Array Value} (h:tm.size=27):∃u:Nat→Value,tm=#[u 0,u 1,u 2,u 3,u 4,u 5,u 6,u 7,u 8,u 9,u 10,u 11,u 12,u 13,u 14,u 15,u 16,u 17,u 18,u 19,u 20,u 21,u 22,u 23,u 24,u 25,u 26]:=by
 refine ⟨fun i=>tm.getD i undef,?_⟩
 have e:tm=((List.range 27).map fun i=>tm.getD i undef).toArray:=by
  apply Array.ext
  ·simp[h]
  ·intro i h1 h2
   simp[Array.getD,h1]
 exact e.trans rfl
noncomputable def aas:Code:=match Tryz.f144.body with
 |some (.seq r _)=>r
 |_=>.skip
noncomputable def TQ:Code:=match Tryz.f144.body with
 |some (.seq _ c)=>c
 |_=>.skip
theorem Pk:Tryz.f144.body=some (.seq aas TQ):=rfl
noncomputable def Pp:Code:=match TQ with
 |.cond _ (.seq r _) _=>r
 |_=>.skip
noncomputable def Lk:Code:=match TQ with
 |.cond _ (.seq _ r) _=>r
 |_=>.skip
noncomputable def Pn:Code:=match TQ with
 |.cond _ _ r=>r
 |_=>.skip
theorem Lj:TQ=.cond (.tmp 3) (.seq Pp Lk) Pn:=rfl
section
variable {lo b g : Nat} {nm : ByteArray} {ss : List Slot} {N : (Nat → Prop) → World → Prop} {V W w0 : World} {s : ax} {sl : Slot} {r : Except (Int × Int) (Ms × ax)} {pm pr : Nat} {iN : Array Value} {R : Ending → World → Prop}
theorem Pl (h:Ap lo b g 49 nm ss N V W s w0) (hN:aP N) (hi:ss[2]?=some sl) (eO:Fit 24 sl 160 (nB g)) (hn:sl.n≤100000) (fk:∀P w,N P w→∀c ∈ ([(pm,#[.pointer (some ⟨g,0,none⟩)],158),(pr,#[.pointer (some ⟨b,0,none⟩)],74)]:List (Nat×Array Value×TypeId)),aX c.1 c.2.1 c.2.2 P w) (db:∀w s2 M,aP M→Ap lo b g 49 nm ss (fun P w=>N P w∧M P w) V W s2 w→s2=s→Calls Tryz.prog 103 #[.pointer (some ⟨b,0,none⟩)] w (CR lo b (nB g) w r))
  (hR:∀e w,CP lo b g 49 nm ss N V W 2 sl r (nB g) e w→R e w) (oZ:iN.size=27) (k0:iN.getD 0 undef=.pointer (some ⟨pm,0,none⟩)) (k1:iN.getD 1 undef=.pointer (some ⟨pr,0,none⟩)):Pn.wp Tryz.prog (bodyPost Tryz.prog Tryz.f144 R) ⟨iN,[]⟩ w0:=by
 obtain ⟨va,vn,vc,hv⟩:=aU (h.bx.own 2 sl hi)
 obtain ⟨ei,me,oX,rW,fx⟩:=eO
 have cK:=Ph.base (lo:=lo) (b:=b) (g:=g) (T:=49) (nm:=nm) (V:=V) (W:=W) (s:=s) (r:=r) (N1:=nB g) fk hi
 have hd:=h.up hN (zE w0.heap.size w0).drew
 obtain ⟨Qb,qb⟩:∃Q,bodyPost Tryz.prog Tryz.f144 R=Q:=⟨_,rfl⟩
 rw[qb]
 unfold Pn TQ
 dsimp only[Tryz.f144]
 refine dv (z:=11) (N:=27) (c:=6) (by kernel_rfl) (fun k=>k+16) (fun k=>[.pointer (some ⟨g,0,none⟩),.pointer (some ⟨g,0,none⟩),.pointer (some ⟨g,0,none⟩),.pointer (some ⟨g,3,none⟩),sl.v,.pointer (some ⟨b,0,none⟩),undef,undef,undef,.pointer (some ⟨g,0,none⟩),.pointer (some ⟨g,3,none⟩)].getD k undef) (Ph lo b g 49 nm ss N V W s sl r (nB g)) _ w0 rfl oZ (fun i j _ _ e=>by omega) (fun i hi=>by omega) (by kernel_rfl) (by omega) (by kernel_rfl) (by kernel_rfl) (by kernel_rfl) hd ?_ ?_ ?_ ?_ ?_
 ·intro k tm w hk hq cl cB a8 bN
  obtain ⟨ph,x,bN⟩:=bN
  have hB:=cK ph x w bN
  match k,hk with
  |0,_=>exact aY rfl rfl _ (.tmp 0) rfl ((cB 0 (by intro i hi;omega)).trans k0) (cT w (hB.cell (List.mem_cons_self ..) rfl)) ⟨rfl,rfl⟩
  |1,_=>exact aY rfl rfl _ (.tmp 0) rfl ((cB 0 (by intro i hi;omega)).trans k0) (cT w (hB.cell (List.mem_cons_self ..) rfl)) ⟨rfl,rfl⟩
  |2,_=>exact bc rfl rfl (.tmp 17) rfl (a8 1 (by omega) (by kernel_rfl)) ⟨rfl,rfl⟩
  |3,_=>exact bW rfl rfl _ (.tmp 18) _ rfl (a8 2 (by omega) (by kernel_rfl)) (xy w) ⟨rfl,rfl⟩
  |4,_=>exact aY rfl rfl _ (.tmp 19) rfl (a8 3 (by omega) (by kernel_rfl)) (by rw[hv];exact xq w (by rw[←hv];exact hB.row hi)) ⟨rfl,rfl⟩
  |5,_=>exact aY rfl rfl _ (.tmp 1) rfl ((cB 1 (by intro i hi;omega)).trans k1) (dh w (hB.cell (zF _ (List.mem_cons_self ..)) rfl)) ⟨rfl,rfl⟩
  |6,_=>omega
  |7,_=>omega
  |8,_=>omega
  |9,_=>exact bc rfl rfl (.tmp 16) rfl (a8 0 (by omega) (by kernel_rfl)) ⟨rfl,rfl⟩
  |10,_=>exact bW rfl rfl _ (.tmp 25) _ rfl (a8 9 (by omega) (by kernel_rfl)) (xy w) ⟨rfl,rfl⟩
 ·intro tm w cl cB a8 bN
  have bd:Ap lo b g 49 nm ss N V W s w:=bN
  refine cE rfl rfl 103 (lK w) _ _ rfl #[.pointer (some ⟨b,0,none⟩)] ?_ (db w s (fun _ _=>True) nP (bd.imp (fun h=>⟨h,trivial⟩)) rfl) ?_
  ·simp only[List.map_toArray,List.map_cons,List.map_nil,Act.eval]
   rw[show tm.getD 21 undef=_ from a8 5 (by omega) (by kernel_rfl)]
   rfl
  ·intro e w' ky
   rcases Ph.call hN (fW g) bN ky with ⟨x,rfl,h1⟩|⟨y,hr,rfl,hs⟩
   ·exact .inl ⟨x,rfl,x,rfl,h1⟩
   ·exact .inr ⟨_,rfl,by rw[←qb];exact ⟨rfl,hR _ _ (by unfold CP;rw[hr];exact ⟨rfl,hs⟩)⟩⟩
 ·intro tm w x cl hx bN
  obtain ⟨a,s',hr,iI,bd⟩:=id bN
  obtain ⟨f1,f2,f3⟩:=fx a x _ _ iI
  exact kh rfl rfl _ _ _ rfl #[(0,x)] (by simp only[List.map_toArray,List.map_cons,List.map_nil,Act.eval];rw[show tm.getD 22 undef=x from hx]) (f3 w) ⟨_,rfl,Ph.bs hN (fW g) bN⟩
 ·intro tm w y cl a8 hy bN
  obtain ⟨a,s',x,gy,hr,rfl,sK,iI,bd⟩:=id bN
  obtain ⟨f1,f2,f3⟩:=fx a x _ _ iI
  have hl:=bd.bx.lt
  refine cw w rfl rfl (.tmp 20) (.tmp 23) 24 rfl (g+1) sl.t sl.sz 160 me ei oX sl.v sl.n sl.xs (a8 4 (by omega) (by kernel_rfl)) (bd.bx.own 2 sl hi) ⟨gy,0,none⟩ 1 1 x.cells.toList hy (by rw[Array.length_toList,f1];omega) (ep sK) f2 (by unfold maxLen;omega) (by omega) (by omega) ?_
  intro v' w' h1 h2 h3
  exact ⟨v',rfl,Ph.app hr bd h2 h1 h3⟩
 ·intro tm w y cl cB dC hy bN
  have hB:=cK 3 y w bN
  obtain ⟨a,s',x,w2,hr,h1,h2,h3,h4⟩:=id bN
  obtain ⟨ya,yn,yc,rfl⟩:=aU h3
  refine eu rfl rfl _ (.tmp 26) (.tmp 24) rfl (dC 10 (by omega) (by omega)) hy (xa w (hB.row hi) (hB.frozen _)) ?_
  rw[←qb]
  go_end0
  exact hR _ _ (Ph.last hN (fW g) hi bN)
theorem Po (h:Ap lo b g 49 nm ss N V W s w0) (hN:aP N) (hi:ss[2]?=some sl) (eO:Fit 24 sl 160 (nB g)) (hn:sl.n≤100000) (fk:∀P w,N P w→∀c ∈ ([(pm,#[.pointer (some ⟨g,0,none⟩)],158),(pr,#[.pointer (some ⟨b,0,none⟩)],74)]:List (Nat×Array Value×TypeId)),aX c.1 c.2.1 c.2.2 P w) (db:∀w s2 M,aP M→Ap lo b g 49 nm ss (fun P w=>N P w∧M P w) V W s2 w→s2=s→Calls Tryz.prog 103 #[.pointer (some ⟨b,0,none⟩)] w (CR lo b (nB g) w r))
  (hR:∀e w,CP lo b g 49 nm ss N V W 2 sl r (nB g) e w→R e w) (oZ:iN.size=27) (k0:iN.getD 0 undef=.pointer (some ⟨pm,0,none⟩)) (k1:iN.getD 1 undef=.pointer (some ⟨pr,0,none⟩)):(Code.seq Pp Lk).wp Tryz.prog (bodyPost Tryz.prog Tryz.f144 R) ⟨iN,[]⟩ w0:=by
 obtain ⟨va,vc,hv⟩:=bZ (h.bx.own 2 sl hi)
 obtain ⟨ei,me,oX,rW,fx⟩:=eO
 have e7:sl.sz=7:=by
  obtain ⟨i1,z1,h1,h2,h3,h4,h5⟩:=ei
  obtain ⟨i2,z2,g1,g2,g3,g4,g5⟩:=OW
  have:sl.t=49:=by
   have h9:Tryz.prog.underlying 24=some (.slice 49):=by kernel_rfl
   rw[h9] at me
   simpa using me.symm
  rw[this] at h1
  rw[h1] at g1
  obtain rfl:=zC g1
  omega
 have et:sl.t=49:=by
  have h9:Tryz.prog.underlying 24=some (.slice 49):=by kernel_rfl
  rw[h9] at me
  simpa using me.symm
 refine wp_seq ?_
 obtain ⟨R2,LF⟩:∃c,Lk=c:=⟨_,rfl⟩
 rw[LF]
 obtain ⟨Qb,qb⟩:∃Q,bodyPost Tryz.prog Tryz.f144 R=Q:=⟨_,rfl⟩
 rw[qb]
 unfold Pp TQ
 dsimp only[Tryz.f144]
 refine pV (z:=11) (N:=27) (by kernel_rfl) (fun k=>k+4) (fun d tm w=>(∀j,j<11→j≠5→j≠7→j≠8→d.getD j false=true→tm.getD (j+4) undef=[.pointer (some ⟨g,0,none⟩),.pointer (some ⟨g,0,none⟩),.pointer (some ⟨g,3,none⟩),sl.v,.pointer (some ⟨b,0,none⟩),undef,.int .i64 (sl.n:Int),undef,undef,.pointer (some ⟨g,0,none⟩),.pointer (some ⟨g,3,none⟩)].getD j undef)∧((d.getD 8 false=false∧PA lo b g 49 nm ss N V W s r (d.getD 5 false) (tm.getD 9 undef) (d.getD 7 false) (tm.getD 11 undef) w)∨(d.getD 8 false=true∧d.getD 5 false=true∧d.getD 7 false=true∧PB lo b g 49 nm ss N V W sl r (tm.getD 9 undef) (tm.getD 12 undef) w))) _ w0 rfl oZ (fun i hi=>by omega) (by kernel_rfl) (by kernel_rfl) ?_ ?_ ?_
 ·intro d hd _
  refine ⟨fun j _ _ _ _ h=>(by rw[hd j] at h;cases h),.inl ⟨hd 8,?_⟩⟩
  rw[hd 5,hd 7]
  obtain ⟨M,s2,q1,q2,q3,q4⟩:=PA.drew (r:=r) hN h
  exact ⟨M,s2,q1,q2,q3,q4⟩
 ·intro k d tm w hk hd i' ud hw cl cB hG
  obtain ⟨lQ,Ah⟩:=hG
  have hB:Bs g 49 nm ss [(pm,#[.pointer (some ⟨g,0,none⟩)],158),(pr,#[.pointer (some ⟨b,0,none⟩)],74)] w:=by
   rcases Ah with ⟨_,q⟩|⟨_,_,_,q⟩
   ·exact q.base fk
   ·exact q.base fk hi
  have hq:∀v,v=[.pointer (some ⟨g,0,none⟩),.pointer (some ⟨g,0,none⟩),.pointer (some ⟨g,3,none⟩),sl.v,.pointer (some ⟨b,0,none⟩),undef,.int .i64 (sl.n:Int),undef,undef,.pointer (some ⟨g,0,none⟩),.pointer (some ⟨g,3,none⟩)].getD k undef→k≠5→k≠7→k≠8→(∀j,j<11→j≠5→j≠7→j≠8→(d.setIfInBounds k true).getD j false=true→(tm.setIfInBounds (k+4) v).getD (j+4) undef=[.pointer (some ⟨g,0,none⟩),.pointer (some ⟨g,0,none⟩),.pointer (some ⟨g,3,none⟩),sl.v,.pointer (some ⟨b,0,none⟩),undef,.int .i64 (sl.n:Int),undef,undef,.pointer (some ⟨g,0,none⟩),.pointer (some ⟨g,3,none⟩)].getD j undef)∧(((d.setIfInBounds k true).getD 8 false=false∧PA lo b g 49 nm ss N V W s r ((d.setIfInBounds k true).getD 5 false) ((tm.setIfInBounds (k+4) v).getD 9 undef) ((d.setIfInBounds k true).getD 7 false) ((tm.setIfInBounds (k+4) v).getD 11 undef) w)∨((d.setIfInBounds k true).getD 8 false=true∧(d.setIfInBounds k true).getD 5 false=true∧(d.setIfInBounds k true).getD 7 false=true∧PB lo b g 49 nm ss N V W sl r ((tm.setIfInBounds (k+4) v).getD 9 undef) ((tm.setIfInBounds (k+4) v).getD 12 undef) w)):=by
   intro v hv h5 h7 h8
   refine ⟨fun j hj n5 n7 n8 rq=>?_,?_⟩
   ·by_cases e:j=k
    ·subst e
     rw[cq (by omega)]
     exact hv
    ·rw[aI (Ne.symm e)] at rq
     rw[aI (by omega)]
     exact lQ j hj n5 n7 n8 rq
   ·rw[aI h8,aI h5,aI h7,aI (show k+4≠9 by omega),aI (show k+4≠11 by omega),aI (show k+4≠12 by omega)]
    exact Ah
  match k,hk with
  |0,_=>exact aY rfl rfl _ (.tmp 0) rfl ((cB 0 (by intro i hi;omega)).trans k0) (cT w (hB.cell (List.mem_cons_self ..) rfl)) ⟨_,rfl,hq _ rfl (by omega) (by omega) (by omega)⟩
  |1,_=>exact bc rfl rfl (.tmp 4) rfl (lQ 0 (by omega) (by omega) (by omega) (by omega) (hw 0 (by kernel_rfl)).2) ⟨_,rfl,hq _ rfl (by omega) (by omega) (by omega)⟩
  |2,_=>exact bW rfl rfl _ (.tmp 5) _ rfl (lQ 1 (by omega) (by omega) (by omega) (by omega) (hw 1 (by kernel_rfl)).2) (xy w) ⟨_,rfl,hq _ rfl (by omega) (by omega) (by omega)⟩
  |3,_=>exact aY rfl rfl _ (.tmp 6) rfl (lQ 2 (by omega) (by omega) (by omega) (by omega) (hw 2 (by kernel_rfl)).2) (by rw[hv];exact xq w (by rw[←hv];exact hB.row hi)) ⟨_,rfl,hq _ hv.symm (by omega) (by omega) (by omega)⟩
  |4,_=>exact aY rfl rfl _ (.tmp 1) rfl ((cB 1 (by intro i hi;omega)).trans k1) (dh w (hB.cell (zF _ (List.mem_cons_self ..)) rfl)) ⟨_,rfl,hq _ rfl (by omega) (by omega) (by omega)⟩
  |5,_ =>
   have Gg:d.getD 8 false=false∧PA lo b g 49 nm ss N V W s r false (tm.getD 9 undef) (d.getD 7 false) (tm.getD 11 undef) w:=by
    rcases Ah with ⟨q1,q2⟩|⟨_,q,_⟩
    ·rw[ud] at q2
     exact ⟨q1,q2⟩
    ·rw[q] at ud;cases ud
   obtain ⟨Gg,Kz⟩:=Gg
   obtain ⟨M,s2,hM,bd,NV,_⟩:=id Kz
   rw[if_neg (by simp)] at NV
   refine cE rfl rfl 103 (lK w) _ _ rfl #[.pointer (some ⟨b,0,none⟩)] ?_ (db w s2 M hM bd NV) ?_
   ·simp only[List.map_toArray,List.map_cons,List.map_nil,Act.eval]
    rw[show tm.getD 8 undef=_ from lQ 4 (by omega) (by omega) (by omega) (by omega) (hw 4 (by kernel_rfl)).2]
    rfl
   ·intro e w' ky
    rcases PA.call hN Kz ky with ⟨x,rfl,h1⟩|⟨y,hr,rfl,hs⟩
    ·refine .inl ⟨x,rfl,x,rfl,fun j hj n5 n7 n8 rq=>?_,.inl ⟨?_,?_⟩⟩
     ·rw[aI (Ne.symm n5)] at rq
      rw[aI (by omega)]
      exact lQ j hj n5 n7 n8 rq
     ·rw[aI (by omega)]
      exact Gg
     ·rw[cq (by omega),cq (by omega),aI (by omega),aI (by omega)]
      exact h1
    ·exact .inr ⟨_,rfl,by show Qb (Exit.panic _) _ _;rw[←qb];exact ⟨rfl,hR _ _ (by unfold CP;rw[hr];exact ⟨rfl,hs⟩)⟩⟩
  |6,_=>exact FP rfl rfl (.tmp 7) 24 49 rfl Tryz.underlying24 ((lQ 3 (by omega) (by omega) (by omega) (by omega) (hw 3 (by kernel_rfl)).2).trans hv) ⟨_,rfl,hq _ rfl (by omega) (by omega) (by omega)⟩
  |7,_ =>
   have Gg:d.getD 8 false=false∧PA lo b g 49 nm ss N V W s r (d.getD 5 false) (tm.getD 9 undef) false (tm.getD 11 undef) w:=by
    rcases Ah with ⟨q1,q2⟩|⟨_,_,q,_⟩
    ·rw[ud] at q2
     exact ⟨q1,q2⟩
    ·rw[q] at ud;cases ud
   obtain ⟨Gg,Kz⟩:=Gg
   refine kh rfl rfl _ _ _ rfl #[(0,.agg iy)] (by simp only[List.map_toArray,List.map_cons,List.map_nil,Act.eval];rfl) (Ji w) ⟨_,rfl,fun j hj n5 n7 n8 rq=>?_,.inl ⟨?_,?_⟩⟩
   ·rw[aI (Ne.symm n7)] at rq
    rw[aI (by omega)]
    exact lQ j hj n5 n7 n8 rq
   ·rw[aI (by omega)]
    exact Gg
   ·rw[aI (by omega),aI (by omega),cq (by omega),cq (by omega)]
    exact Kz.bs hN
  |8,_ =>
   have Xp:=(hw 5 (by kernel_rfl)).2
   have ZG:=(hw 7 (by kernel_rfl)).2
   have Kz:PA lo b g 49 nm ss N V W s r true (tm.getD 9 undef) true (tm.getD 11 undef) w:=by
    rcases Ah with ⟨_,q⟩|⟨q,_⟩
    ·rw[Xp,ZG] at q
     exact q
    ·rw[q] at ud;cases ud
   obtain ⟨M,s2,hM,bd,hx,hy⟩:=Kz
   rw[if_pos rfl] at hx hy
   obtain ⟨a,hr,jo⟩:=hx
   obtain ⟨gy,hy,hz⟩:=hy
   have hl:=bd.bx.lt
   refine cw w rfl rfl (.tmp 7) (.tmp 11) 24 rfl (g+1) sl.t sl.sz 160 me ei oX sl.v sl.n sl.xs (lQ 3 (by omega) (by omega) (by omega) (by omega) (hw 3 (by kernel_rfl)).2) (bd.bx.own 2 sl hi) ⟨gy,0,none⟩ 1 1 iy.toList hy (by rw[e7];rfl) (ep (x:=.agg iy) (hz _ _ bd.nx.2).1) ?_ (by unfold maxLen;omega) (by omega) (by omega) ?_
   ·intro u hu
    simp only[iy,List.mem_cons,List.not_mem_nil,or_false] at hu
    rcases hu with rfl|rfl|rfl|rfl|rfl|rfl|rfl<;>rfl
   ·intro v' w' h1 h2 h3
    refine ⟨v',rfl,fun j hj n5 n7 n8 rq=>?_,.inr ⟨cq (by omega),?_,?_,?_⟩⟩
    ·rw[aI (Ne.symm n8)] at rq
     rw[aI (by omega)]
     exact lQ j hj n5 n7 n8 rq
    ·rw[aI (by omega)]
     exact Xp
    ·rw[aI (by omega)]
     exact ZG
    ·rw[aI (by omega),cq (by omega)]
     exact ⟨M,a,s2,w,hr,hM,jo,bd,h2,h1,h3⟩
  |9,_=>exact bc rfl rfl (.tmp 4) rfl (lQ 0 (by omega) (by omega) (by omega) (by omega) (hw 0 (by kernel_rfl)).2) ⟨_,rfl,hq _ rfl (by omega) (by omega) (by omega)⟩
  |10,_=>exact bW rfl rfl _ (.tmp 13) _ rfl (lQ 9 (by omega) (by omega) (by omega) (by omega) (hw 9 (by kernel_rfl)).2) (xy w) ⟨_,rfl,hq _ rfl (by omega) (by omega) (by omega)⟩
 ·intro d tm w kj cl cB hG
  obtain ⟨lQ,Ah⟩:=hG
  have Ky:PB lo b g 49 nm ss N V W sl r (tm.getD 9 undef) (tm.getD 12 undef) w:=by
   rcases Ah with ⟨q,_⟩|⟨_,_,_,q⟩
   ·rw[kj 8 (by omega)] at q;cases q
   ·exact q
  have hB:=Ky.base fk hi
  obtain ⟨M,a,s2,w2,hr,hM,jo,bd,hg,ho,hl⟩:=Ky
  have IS:=lQ 6 (by omega) (by omega) (by omega) (by omega) (kj 6 (by omega))
  have ZZ:=lQ 10 (by omega) (by omega) (by omega) (by omega) (kj 10 (by omega))
  obtain ⟨k,c,NQ⟩:∃k c,tm.getD 12 undef=.slice (some ⟨k,0,none⟩) (sl.n+1) c:=by
   rcases ho.2 with ⟨_,e0⟩|⟨k,c,_,e,_⟩
   ·omega
   ·exact ⟨k,c,e⟩
  have hlen:=(h.bx.own 2 sl hi).1
  rw[e7] at hlen
  refine eu rfl rfl _ (.tmp 14) (.tmp 12) rfl ZZ NQ (xa w (hB.row hi) (hB.frozen _)) ?_
  have ij:=bd.app (hN.and hM) hi hg ho hl
  rw[NQ] at ij
  show R2.wp Tryz.prog Qb ⟨tm,[]⟩ _
  obtain ⟨⟨l⟩,tE,rT⟩:=jo _ _ ij.nx.2
  obtain ⟨wz,YM⟩:∃wz,w.setCell ⟨g,3,none⟩ (.slice (some ⟨k,0,none⟩) (sl.n+1) c)=wz:=⟨_,rfl⟩
  rw[YM] at ij rT ⊢
  cases rT with
  |cons hf B1 hm rT he AZ Ly tH ht =>
   cases ht
   obtain ⟨fa,fn,fc,rfl⟩:=aU hf.1
   obtain ⟨oa,on,oc,rfl⟩:=aU B1.1
   obtain ⟨ma,mn,mc,rfl⟩:=aU hm.1
   obtain ⟨ea,en,ec,rfl⟩:=aU he.1
   obtain ⟨ra,rn,rc,rfl⟩:=aU Ly.1
   obtain ⟨ga,gn,gc,rfl⟩:=aU tH.1
   rename_i QY _ _ _ _ _ _ _ _
   have cW:=ij.bx.own 2 _ (gh hi _)
   simp only[e7,et] at cW ij
   have dK:∀t u,iy.toList[t]?=some u→wz.cell? ⟨k,sl.n*7+t,none⟩=some u:=fun t u ht=>by
    have dr:t<7:=(zB ht).1
    rw[World.ownsRow.cellAt cW (sl.n*7+t) (by omega),←hlen,List.getElem?_append_right (Nat.le_add_right _ _),Nat.add_sub_cancel_left]
    exact ht
   have y0:=dK 0 _ rfl
   have y1:=dK 1 _ rfl
   have y2:=dK 2 _ rfl
   have y3:=dK 3 _ rfl
   have y4:=dK 4 _ rfl
   have y5:=dK 5 _ rfl
   have y6:=dK 6 _ rfl
   have z0:=World.ownsRow.frozenAt cW (sl.n*7)
   have z1:=World.ownsRow.frozenAt cW (sl.n*7+1)
   have z2:=World.ownsRow.frozenAt cW (sl.n*7+2)
   have z3:=World.ownsRow.frozenAt cW (sl.n*7+3)
   have z4:=World.ownsRow.frozenAt cW (sl.n*7+4)
   have z5:=World.ownsRow.frozenAt cW (sl.n*7+5)
   have z6:=World.ownsRow.frozenAt cW (sl.n*7+6)
   rw[Nat.add_zero] at y0
   have pf:=Ap.Ds hi ij (hN.and hM) rfl hlen (.string QY) (.slice fa fn fc) (.slice oa on oc) (.slice ma mn mc) (.slice ea en ec) (.slice ra rn rc) (.slice ga gn gc)
   have HE:Hid (R (.returned (.tuple #[])) (Ds wz k (sl.n*7) (.string QY) (.slice fa fn fc) (.slice oa on oc) (.slice ma mn mc) (.slice ea en ec) (.slice ra rn rc) (.slice ga gn gc))):=by
    refine hR _ _ ?_
    unfold CP
    rw[hr]
    refine ⟨rfl,tm.getD 9 undef,.slice (some ⟨k,0,none⟩) (sl.n+1) c,?_⟩
    rw[e7,et]
    have Tl:(tm.getD 9 undef).cells.toList=[.string QY,.slice fa fn fc,.slice oa on oc,.slice ma mn mc,.slice ea en ec,.slice ra rn rc,.slice ga gn gc]:=by rw[tE];rfl
    rw[Tl]
    exact pf.imp (fun h=>⟨h.1,jo _ _ h.2⟩)
   obtain ⟨u,hu⟩:=IZ cl
   have q9:u 9=.agg #[.string QY,.slice fa fn fc,.slice oa on oc,.slice ma mn mc,.slice ea en ec,.slice ra rn rc,.slice ga gn gc]:=by rw[hu] at tE;exact tE
   have EY:u 10=.int .i64 (sl.n:Int):=by rw[hu] at IS;exact IS
   have Yl:u 12=.slice (some ⟨k,0,none⟩) (sl.n+1) c:=by rw[hu] at NQ;exact NQ
   rw[hu,q9,EY,Yl,←LF]
   obtain ⟨L,hL⟩:∃L,sl.n+1=L:=⟨_,rfl⟩
   rw[hL]
   obtain ⟨n,Zo⟩:∃n,sl.n=n:=⟨_,rfl⟩
   rw[Zo] at y0 y1 y2 y3 y4 y5 y6 z0 z1 z2 z3 z4 z5 z6 HE hL hn ⊢
   have n0:(0:Int)≤(n:Int):=zH _
   have n1:(n:Int)<(L:Int):=by omega
   have n2:n≤100000:=hn
   unfold Ds at HE
   unfold Lk TQ
   dsimp only[Tryz.f144]
   clear pf ij cW dK tE IS NQ q9 EY Yl hu hf B1 hm rT he AZ Ly tH lQ Ah cB kj cl hB bd hg ho hl ZZ YM hL Zo hlen jo hM hr h hN hi ei me oX rW fx fk db hR hv e7 et hn k0 k1 oZ
   go_wp2
   rw[←qb]
   go_end0
   exact aa HE
theorem Wd (h:Ap lo b g 49 nm ss N V W s w0) (hN:aP N) (hi:ss[2]?=some sl) (eO:Fit 24 sl 160 (nB g)) (hn:sl.n≤100000) (fk:∀P w,N P w→∀c ∈ ([(pm,#[.pointer (some ⟨g,0,none⟩)],158),(pr,#[.pointer (some ⟨b,0,none⟩)],74)]:List (Nat×Array Value×TypeId)),aX c.1 c.2.1 c.2.2 P w) (db:∀w s2 M,aP M→Ap lo b g 49 nm ss (fun P w=>N P w∧M P w) V W s2 w→s2=s→Calls Tryz.prog 103 #[.pointer (some ⟨b,0,none⟩)] w (CR lo b (nB g) w r)) :
  Calls Tryz.prog 144 #[.pointer (some ⟨pm,0,none⟩),.pointer (some ⟨pr,0,none⟩)] w0 (CP lo b g 49 nm ss N V W 2 sl r (nB g)):=by
 have HX:∀w,Below w0.heap.size w0 w→∀iN:Array Value,iN.size=27→iN.getD 0 undef=.pointer (some ⟨pm,0,none⟩)→iN.getD 1 undef=.pointer (some ⟨pr,0,none⟩)→(Code.seq Pp Lk).wp Tryz.prog (bodyPost Tryz.prog Tryz.f144 (CP lo b g 49 nm ss N V W 2 sl r (nB g))) ⟨iN,[]⟩ w∧Pn.wp Tryz.prog (bodyPost Tryz.prog Tryz.f144 (CP lo b g 49 nm ss N V W 2 sl r (nB g))) ⟨iN,[]⟩ w:=fun w hb iN h1 h2 h3 =>
  ⟨Po (h.up hN hb) hN hi eO hn fk db (fun _ _ h=>h) h1 h2 h3,Pl (h.up hN hb) hN hi eO hn fk db (fun _ _ h=>h) h1 h2 h3⟩
 have SP:=ab HX
 have HB:=ab (zE w0.heap.size w0)
 clear HX h hN hi eO hn fk db
 refine calls_of_wp Tryz.func144 Pk ?_
 rw[Lj]
 obtain ⟨X,hX⟩:∃X,Code.seq Pp Lk=X:=⟨_,rfl⟩
 obtain ⟨Y,hY⟩:∃Y,Pn=Y:=⟨_,rfl⟩
 rw[hX,hY] at SP
 rw[hX,hY]
 obtain ⟨Q,hQ⟩:∃Q,bodyPost Tryz.prog Tryz.f144 (CP lo b g 49 nm ss N V W 2 sl r (nB g))=Q:=⟨_,rfl⟩
 rw[hQ] at SP ⊢
 unfold aas
 dsimp only[Tryz.f144]
 simp only[List.size_toArray,List.length_cons,List.length_nil,Nat.reduceAdd,Nat.reduceSub,Array.replicate_succ,Array.replicate_zero,List.push_toArray,List.append_toArray,List.nil_append,List.cons_append]
 clear hX hY hQ
 go_wp2
 go_region
 all_goals (try go_wp2)
 ·exact (aa SP _ ((aa HB).alloc (zD _) _).drew _ rfl rfl rfl).2
 ·exact (aa SP _ ((aa HB).alloc (zD _) _).drew _ rfl rfl rfl).1
end
noncomputable def aar:Code:=match Tryz.f102.body with
 |some (.seq r _)=>r
 |_=>.skip
noncomputable def TP:Code:=match Tryz.f102.body with
 |some (.seq _ c)=>c
 |_=>.skip
theorem Pb:Tryz.f102.body=some (.seq aar TP):=rfl
noncomputable def Pf:Code:=match TP with
 |.cond _ (.seq r _) _=>r
 |_=>.skip
noncomputable def Lh:Code:=match TP with
 |.cond _ (.seq _ r) _=>r
 |_=>.skip
noncomputable def Pd:Code:=match TP with
 |.cond _ _ r=>r
 |_=>.skip
theorem Lg:TP=.cond (.tmp 3) (.seq Pf Lh) Pd:=rfl
section
variable {lo b g : Nat} {nm : ByteArray} {ss : List Slot} {N : (Nat → Prop) → World → Prop} {V W w0 : World} {s : ax} {sl : Slot} {r : Except (Int × Int) (Ms × ax)} {pm pr : Nat} {iN : Array Value} {R : Ending → World → Prop}
theorem Pc (h:Ap lo b g 27 nm ss N V W s w0) (hN:aP N) (hi:ss[1]?=some sl) (eO:Fit 24 sl 160 (nB g)) (hn:sl.n≤100000) (fk:∀P w,N P w→∀c ∈ ([(pm,#[.pointer (some ⟨g,0,none⟩)],108),(pr,#[.pointer (some ⟨b,0,none⟩)],74)]:List (Nat×Array Value×TypeId)),aX c.1 c.2.1 c.2.2 P w) (db:∀w s2 M,aP M→Ap lo b g 27 nm ss (fun P w=>N P w∧M P w) V W s2 w→s2=s→Calls Tryz.prog 103 #[.pointer (some ⟨b,0,none⟩)] w (CR lo b (nB g) w r))
  (hR:∀e w,CP lo b g 27 nm ss N V W 1 sl r (nB g) e w→R e w) (oZ:iN.size=27) (k0:iN.getD 0 undef=.pointer (some ⟨pm,0,none⟩)) (k1:iN.getD 1 undef=.pointer (some ⟨pr,0,none⟩)):Pd.wp Tryz.prog (bodyPost Tryz.prog Tryz.f102 R) ⟨iN,[]⟩ w0:=by
 obtain ⟨va,vn,vc,hv⟩:=aU (h.bx.own 1 sl hi)
 obtain ⟨ei,me,oX,rW,fx⟩:=eO
 have cK:=Ph.base (lo:=lo) (b:=b) (g:=g) (T:=27) (nm:=nm) (V:=V) (W:=W) (s:=s) (r:=r) (N1:=nB g) fk hi
 have hd:=h.up hN (zE w0.heap.size w0).drew
 obtain ⟨Qb,qb⟩:∃Q,bodyPost Tryz.prog Tryz.f102 R=Q:=⟨_,rfl⟩
 rw[qb]
 unfold Pd TP
 dsimp only[Tryz.f102]
 refine dv (z:=11) (N:=27) (c:=6) (by kernel_rfl) (fun k=>k+16) (fun k=>[.pointer (some ⟨g,0,none⟩),.pointer (some ⟨g,0,none⟩),.pointer (some ⟨g,0,none⟩),.pointer (some ⟨g,2,none⟩),sl.v,.pointer (some ⟨b,0,none⟩),undef,undef,undef,.pointer (some ⟨g,0,none⟩),.pointer (some ⟨g,2,none⟩)].getD k undef) (Ph lo b g 27 nm ss N V W s sl r (nB g)) _ w0 rfl oZ (fun i j _ _ e=>by omega) (fun i hi=>by omega) (by kernel_rfl) (by omega) (by kernel_rfl) (by kernel_rfl) (by kernel_rfl) hd ?_ ?_ ?_ ?_ ?_
 ·intro k tm w hk hq cl cB a8 bN
  obtain ⟨ph,x,bN⟩:=bN
  have hB:=cK ph x w bN
  match k,hk with
  |0,_=>exact aY rfl rfl _ (.tmp 0) rfl ((cB 0 (by intro i hi;omega)).trans k0) (ie w (hB.cell (List.mem_cons_self ..) rfl)) ⟨rfl,rfl⟩
  |1,_=>exact aY rfl rfl _ (.tmp 0) rfl ((cB 0 (by intro i hi;omega)).trans k0) (ie w (hB.cell (List.mem_cons_self ..) rfl)) ⟨rfl,rfl⟩
  |2,_=>exact bc rfl rfl (.tmp 17) rfl (a8 1 (by omega) (by kernel_rfl)) ⟨rfl,rfl⟩
  |3,_=>exact bW rfl rfl _ (.tmp 18) _ rfl (a8 2 (by omega) (by kernel_rfl)) (rB w) ⟨rfl,rfl⟩
  |4,_=>exact aY rfl rfl _ (.tmp 19) rfl (a8 3 (by omega) (by kernel_rfl)) (by rw[hv];exact xq w (by rw[←hv];exact hB.row hi)) ⟨rfl,rfl⟩
  |5,_=>exact aY rfl rfl _ (.tmp 1) rfl ((cB 1 (by intro i hi;omega)).trans k1) (dh w (hB.cell (zF _ (List.mem_cons_self ..)) rfl)) ⟨rfl,rfl⟩
  |6,_=>omega
  |7,_=>omega
  |8,_=>omega
  |9,_=>exact bc rfl rfl (.tmp 16) rfl (a8 0 (by omega) (by kernel_rfl)) ⟨rfl,rfl⟩
  |10,_=>exact bW rfl rfl _ (.tmp 25) _ rfl (a8 9 (by omega) (by kernel_rfl)) (rB w) ⟨rfl,rfl⟩
 ·intro tm w cl cB a8 bN
  have bd:Ap lo b g 27 nm ss N V W s w:=bN
  refine cE rfl rfl 103 (lK w) _ _ rfl #[.pointer (some ⟨b,0,none⟩)] ?_ (db w s (fun _ _=>True) nP (bd.imp (fun h=>⟨h,trivial⟩)) rfl) ?_
  ·simp only[List.map_toArray,List.map_cons,List.map_nil,Act.eval]
   rw[show tm.getD 21 undef=_ from a8 5 (by omega) (by kernel_rfl)]
   rfl
  ·intro e w' ky
   rcases Ph.call hN (fW g) bN ky with ⟨x,rfl,h1⟩|⟨y,hr,rfl,hs⟩
   ·exact .inl ⟨x,rfl,x,rfl,h1⟩
   ·exact .inr ⟨_,rfl,by rw[←qb];exact ⟨rfl,hR _ _ (by unfold CP;rw[hr];exact ⟨rfl,hs⟩)⟩⟩
 ·intro tm w x cl hx bN
  obtain ⟨a,s',hr,iI,bd⟩:=id bN
  obtain ⟨f1,f2,f3⟩:=fx a x _ _ iI
  exact kh rfl rfl _ _ _ rfl #[(0,x)] (by simp only[List.map_toArray,List.map_cons,List.map_nil,Act.eval];rw[show tm.getD 22 undef=x from hx]) (f3 w) ⟨_,rfl,Ph.bs hN (fW g) bN⟩
 ·intro tm w y cl a8 hy bN
  obtain ⟨a,s',x,gy,hr,rfl,sK,iI,bd⟩:=id bN
  obtain ⟨f1,f2,f3⟩:=fx a x _ _ iI
  have hl:=bd.bx.lt
  refine cw w rfl rfl (.tmp 20) (.tmp 23) 24 rfl (g+1) sl.t sl.sz 160 me ei oX sl.v sl.n sl.xs (a8 4 (by omega) (by kernel_rfl)) (bd.bx.own 1 sl hi) ⟨gy,0,none⟩ 1 1 x.cells.toList hy (by rw[Array.length_toList,f1];omega) (ep sK) f2 (by unfold maxLen;omega) (by omega) (by omega) ?_
  intro v' w' h1 h2 h3
  exact ⟨v',rfl,Ph.app hr bd h2 h1 h3⟩
 ·intro tm w y cl cB dC hy bN
  have hB:=cK 3 y w bN
  obtain ⟨a,s',x,w2,hr,h1,h2,h3,h4⟩:=id bN
  obtain ⟨ya,yn,yc,rfl⟩:=aU h3
  refine eu rfl rfl _ (.tmp 26) (.tmp 24) rfl (dC 10 (by omega) (by omega)) hy (xa w (hB.row hi) (hB.frozen _)) ?_
  rw[←qb]
  go_end0
  exact hR _ _ (Ph.last hN (fW g) hi bN)
theorem Pe (h:Ap lo b g 27 nm ss N V W s w0) (hN:aP N) (hi:ss[1]?=some sl) (eO:Fit 24 sl 160 (nB g)) (hn:sl.n≤100000) (fk:∀P w,N P w→∀c ∈ ([(pm,#[.pointer (some ⟨g,0,none⟩)],108),(pr,#[.pointer (some ⟨b,0,none⟩)],74)]:List (Nat×Array Value×TypeId)),aX c.1 c.2.1 c.2.2 P w) (db:∀w s2 M,aP M→Ap lo b g 27 nm ss (fun P w=>N P w∧M P w) V W s2 w→s2=s→Calls Tryz.prog 103 #[.pointer (some ⟨b,0,none⟩)] w (CR lo b (nB g) w r))
  (hR:∀e w,CP lo b g 27 nm ss N V W 1 sl r (nB g) e w→R e w) (oZ:iN.size=27) (k0:iN.getD 0 undef=.pointer (some ⟨pm,0,none⟩)) (k1:iN.getD 1 undef=.pointer (some ⟨pr,0,none⟩)):(Code.seq Pf Lh).wp Tryz.prog (bodyPost Tryz.prog Tryz.f102 R) ⟨iN,[]⟩ w0:=by
 obtain ⟨va,vc,hv⟩:=bZ (h.bx.own 1 sl hi)
 obtain ⟨ei,me,oX,rW,fx⟩:=eO
 have e7:sl.sz=7:=by
  obtain ⟨i1,z1,h1,h2,h3,h4,h5⟩:=ei
  obtain ⟨i2,z2,g1,g2,g3,g4,g5⟩:=OW
  have:sl.t=49:=by
   have h9:Tryz.prog.underlying 24=some (.slice 49):=by kernel_rfl
   rw[h9] at me
   simpa using me.symm
  rw[this] at h1
  rw[h1] at g1
  obtain rfl:=zC g1
  omega
 have et:sl.t=49:=by
  have h9:Tryz.prog.underlying 24=some (.slice 49):=by kernel_rfl
  rw[h9] at me
  simpa using me.symm
 refine wp_seq ?_
 obtain ⟨R2,LF⟩:∃c,Lh=c:=⟨_,rfl⟩
 rw[LF]
 obtain ⟨Qb,qb⟩:∃Q,bodyPost Tryz.prog Tryz.f102 R=Q:=⟨_,rfl⟩
 rw[qb]
 unfold Pf TP
 dsimp only[Tryz.f102]
 refine pV (z:=11) (N:=27) (by kernel_rfl) (fun k=>k+4) (fun d tm w=>(∀j,j<11→j≠5→j≠7→j≠8→d.getD j false=true→tm.getD (j+4) undef=[.pointer (some ⟨g,0,none⟩),.pointer (some ⟨g,0,none⟩),.pointer (some ⟨g,2,none⟩),sl.v,.pointer (some ⟨b,0,none⟩),undef,.int .i64 (sl.n:Int),undef,undef,.pointer (some ⟨g,0,none⟩),.pointer (some ⟨g,2,none⟩)].getD j undef)∧((d.getD 8 false=false∧PA lo b g 27 nm ss N V W s r (d.getD 5 false) (tm.getD 9 undef) (d.getD 7 false) (tm.getD 11 undef) w)∨(d.getD 8 false=true∧d.getD 5 false=true∧d.getD 7 false=true∧PB lo b g 27 nm ss N V W sl r (tm.getD 9 undef) (tm.getD 12 undef) w))) _ w0 rfl oZ (fun i hi=>by omega) (by kernel_rfl) (by kernel_rfl) ?_ ?_ ?_
 ·intro d hd _
  refine ⟨fun j _ _ _ _ h=>(by rw[hd j] at h;cases h),.inl ⟨hd 8,?_⟩⟩
  rw[hd 5,hd 7]
  obtain ⟨M,s2,q1,q2,q3,q4⟩:=PA.drew (r:=r) hN h
  exact ⟨M,s2,q1,q2,q3,q4⟩
 ·intro k d tm w hk hd i' ud hw cl cB hG
  obtain ⟨lQ,Ah⟩:=hG
  have hB:Bs g 27 nm ss [(pm,#[.pointer (some ⟨g,0,none⟩)],108),(pr,#[.pointer (some ⟨b,0,none⟩)],74)] w:=by
   rcases Ah with ⟨_,q⟩|⟨_,_,_,q⟩
   ·exact q.base fk
   ·exact q.base fk hi
  have hq:∀v,v=[.pointer (some ⟨g,0,none⟩),.pointer (some ⟨g,0,none⟩),.pointer (some ⟨g,2,none⟩),sl.v,.pointer (some ⟨b,0,none⟩),undef,.int .i64 (sl.n:Int),undef,undef,.pointer (some ⟨g,0,none⟩),.pointer (some ⟨g,2,none⟩)].getD k undef→k≠5→k≠7→k≠8→(∀j,j<11→j≠5→j≠7→j≠8→(d.setIfInBounds k true).getD j false=true→(tm.setIfInBounds (k+4) v).getD (j+4) undef=[.pointer (some ⟨g,0,none⟩),.pointer (some ⟨g,0,none⟩),.pointer (some ⟨g,2,none⟩),sl.v,.pointer (some ⟨b,0,none⟩),undef,.int .i64 (sl.n:Int),undef,undef,.pointer (some ⟨g,0,none⟩),.pointer (some ⟨g,2,none⟩)].getD j undef)∧(((d.setIfInBounds k true).getD 8 false=false∧PA lo b g 27 nm ss N V W s r ((d.setIfInBounds k true).getD 5 false) ((tm.setIfInBounds (k+4) v).getD 9 undef) ((d.setIfInBounds k true).getD 7 false) ((tm.setIfInBounds (k+4) v).getD 11 undef) w)∨((d.setIfInBounds k true).getD 8 false=true∧(d.setIfInBounds k true).getD 5 false=true∧(d.setIfInBounds k true).getD 7 false=true∧PB lo b g 27 nm ss N V W sl r ((tm.setIfInBounds (k+4) v).getD 9 undef) ((tm.setIfInBounds (k+4) v).getD 12 undef) w)):=by
   intro v hv h5 h7 h8
   refine ⟨fun j hj n5 n7 n8 rq=>?_,?_⟩
   ·by_cases e:j=k
    ·subst e
     rw[cq (by omega)]
     exact hv
    ·rw[aI (Ne.symm e)] at rq
     rw[aI (by omega)]
     exact lQ j hj n5 n7 n8 rq
   ·rw[aI h8,aI h5,aI h7,aI (show k+4≠9 by omega),aI (show k+4≠11 by omega),aI (show k+4≠12 by omega)]
    exact Ah
  match k,hk with
  |0,_=>exact aY rfl rfl _ (.tmp 0) rfl ((cB 0 (by intro i hi;omega)).trans k0) (ie w (hB.cell (List.mem_cons_self ..) rfl)) ⟨_,rfl,hq _ rfl (by omega) (by omega) (by omega)⟩
  |1,_=>exact bc rfl rfl (.tmp 4) rfl (lQ 0 (by omega) (by omega) (by omega) (by omega) (hw 0 (by kernel_rfl)).2) ⟨_,rfl,hq _ rfl (by omega) (by omega) (by omega)⟩
  |2,_=>exact bW rfl rfl _ (.tmp 5) _ rfl (lQ 1 (by omega) (by omega) (by omega) (by omega) (hw 1 (by kernel_rfl)).2) (rB w) ⟨_,rfl,hq _ rfl (by omega) (by omega) (by omega)⟩
  |3,_=>exact aY rfl rfl _ (.tmp 6) rfl (lQ 2 (by omega) (by omega) (by omega) (by omega) (hw 2 (by kernel_rfl)).2) (by rw[hv];exact xq w (by rw[←hv];exact hB.row hi)) ⟨_,rfl,hq _ hv.symm (by omega) (by omega) (by omega)⟩
  |4,_=>exact aY rfl rfl _ (.tmp 1) rfl ((cB 1 (by intro i hi;omega)).trans k1) (dh w (hB.cell (zF _ (List.mem_cons_self ..)) rfl)) ⟨_,rfl,hq _ rfl (by omega) (by omega) (by omega)⟩
  |5,_ =>
   have Gg:d.getD 8 false=false∧PA lo b g 27 nm ss N V W s r false (tm.getD 9 undef) (d.getD 7 false) (tm.getD 11 undef) w:=by
    rcases Ah with ⟨q1,q2⟩|⟨_,q,_⟩
    ·rw[ud] at q2
     exact ⟨q1,q2⟩
    ·rw[q] at ud;cases ud
   obtain ⟨Gg,Kz⟩:=Gg
   obtain ⟨M,s2,hM,bd,NV,_⟩:=id Kz
   rw[if_neg (by simp)] at NV
   refine cE rfl rfl 103 (lK w) _ _ rfl #[.pointer (some ⟨b,0,none⟩)] ?_ (db w s2 M hM bd NV) ?_
   ·simp only[List.map_toArray,List.map_cons,List.map_nil,Act.eval]
    rw[show tm.getD 8 undef=_ from lQ 4 (by omega) (by omega) (by omega) (by omega) (hw 4 (by kernel_rfl)).2]
    rfl
   ·intro e w' ky
    rcases PA.call hN Kz ky with ⟨x,rfl,h1⟩|⟨y,hr,rfl,hs⟩
    ·refine .inl ⟨x,rfl,x,rfl,fun j hj n5 n7 n8 rq=>?_,.inl ⟨?_,?_⟩⟩
     ·rw[aI (Ne.symm n5)] at rq
      rw[aI (by omega)]
      exact lQ j hj n5 n7 n8 rq
     ·rw[aI (by omega)]
      exact Gg
     ·rw[cq (by omega),cq (by omega),aI (by omega),aI (by omega)]
      exact h1
    ·exact .inr ⟨_,rfl,by show Qb (Exit.panic _) _ _;rw[←qb];exact ⟨rfl,hR _ _ (by unfold CP;rw[hr];exact ⟨rfl,hs⟩)⟩⟩
  |6,_=>exact FP rfl rfl (.tmp 7) 24 49 rfl Tryz.underlying24 ((lQ 3 (by omega) (by omega) (by omega) (by omega) (hw 3 (by kernel_rfl)).2).trans hv) ⟨_,rfl,hq _ rfl (by omega) (by omega) (by omega)⟩
  |7,_ =>
   have Gg:d.getD 8 false=false∧PA lo b g 27 nm ss N V W s r (d.getD 5 false) (tm.getD 9 undef) false (tm.getD 11 undef) w:=by
    rcases Ah with ⟨q1,q2⟩|⟨_,_,q,_⟩
    ·rw[ud] at q2
     exact ⟨q1,q2⟩
    ·rw[q] at ud;cases ud
   obtain ⟨Gg,Kz⟩:=Gg
   refine kh rfl rfl _ _ _ rfl #[(0,.agg iy)] (by simp only[List.map_toArray,List.map_cons,List.map_nil,Act.eval];rfl) (Ji w) ⟨_,rfl,fun j hj n5 n7 n8 rq=>?_,.inl ⟨?_,?_⟩⟩
   ·rw[aI (Ne.symm n7)] at rq
    rw[aI (by omega)]
    exact lQ j hj n5 n7 n8 rq
   ·rw[aI (by omega)]
    exact Gg
   ·rw[aI (by omega),aI (by omega),cq (by omega),cq (by omega)]
    exact Kz.bs hN
  |8,_ =>
   have Xp:=(hw 5 (by kernel_rfl)).2
   have ZG:=(hw 7 (by kernel_rfl)).2
   have Kz:PA lo b g 27 nm ss N V W s r true (tm.getD 9 undef) true (tm.getD 11 undef) w:=by
    rcases Ah with ⟨_,q⟩|⟨q,_⟩
    ·rw[Xp,ZG] at q
     exact q
    ·rw[q] at ud;cases ud
   obtain ⟨M,s2,hM,bd,hx,hy⟩:=Kz
   rw[if_pos rfl] at hx hy
   obtain ⟨a,hr,jo⟩:=hx
   obtain ⟨gy,hy,hz⟩:=hy
   have hl:=bd.bx.lt
   refine cw w rfl rfl (.tmp 7) (.tmp 11) 24 rfl (g+1) sl.t sl.sz 160 me ei oX sl.v sl.n sl.xs (lQ 3 (by omega) (by omega) (by omega) (by omega) (hw 3 (by kernel_rfl)).2) (bd.bx.own 1 sl hi) ⟨gy,0,none⟩ 1 1 iy.toList hy (by rw[e7];rfl) (ep (x:=.agg iy) (hz _ _ bd.nx.2).1) ?_ (by unfold maxLen;omega) (by omega) (by omega) ?_
   ·intro u hu
    simp only[iy,List.mem_cons,List.not_mem_nil,or_false] at hu
    rcases hu with rfl|rfl|rfl|rfl|rfl|rfl|rfl<;>rfl
   ·intro v' w' h1 h2 h3
    refine ⟨v',rfl,fun j hj n5 n7 n8 rq=>?_,.inr ⟨cq (by omega),?_,?_,?_⟩⟩
    ·rw[aI (Ne.symm n8)] at rq
     rw[aI (by omega)]
     exact lQ j hj n5 n7 n8 rq
    ·rw[aI (by omega)]
     exact Xp
    ·rw[aI (by omega)]
     exact ZG
    ·rw[aI (by omega),cq (by omega)]
     exact ⟨M,a,s2,w,hr,hM,jo,bd,h2,h1,h3⟩
  |9,_=>exact bc rfl rfl (.tmp 4) rfl (lQ 0 (by omega) (by omega) (by omega) (by omega) (hw 0 (by kernel_rfl)).2) ⟨_,rfl,hq _ rfl (by omega) (by omega) (by omega)⟩
  |10,_=>exact bW rfl rfl _ (.tmp 13) _ rfl (lQ 9 (by omega) (by omega) (by omega) (by omega) (hw 9 (by kernel_rfl)).2) (rB w) ⟨_,rfl,hq _ rfl (by omega) (by omega) (by omega)⟩
 ·intro d tm w kj cl cB hG
  obtain ⟨lQ,Ah⟩:=hG
  have Ky:PB lo b g 27 nm ss N V W sl r (tm.getD 9 undef) (tm.getD 12 undef) w:=by
   rcases Ah with ⟨q,_⟩|⟨_,_,_,q⟩
   ·rw[kj 8 (by omega)] at q;cases q
   ·exact q
  have hB:=Ky.base fk hi
  obtain ⟨M,a,s2,w2,hr,hM,jo,bd,hg,ho,hl⟩:=Ky
  have IS:=lQ 6 (by omega) (by omega) (by omega) (by omega) (kj 6 (by omega))
  have ZZ:=lQ 10 (by omega) (by omega) (by omega) (by omega) (kj 10 (by omega))
  obtain ⟨k,c,NQ⟩:∃k c,tm.getD 12 undef=.slice (some ⟨k,0,none⟩) (sl.n+1) c:=by
   rcases ho.2 with ⟨_,e0⟩|⟨k,c,_,e,_⟩
   ·omega
   ·exact ⟨k,c,e⟩
  have hlen:=(h.bx.own 1 sl hi).1
  rw[e7] at hlen
  refine eu rfl rfl _ (.tmp 14) (.tmp 12) rfl ZZ NQ (xa w (hB.row hi) (hB.frozen _)) ?_
  have ij:=bd.app (hN.and hM) hi hg ho hl
  rw[NQ] at ij
  show R2.wp Tryz.prog Qb ⟨tm,[]⟩ _
  obtain ⟨⟨l⟩,tE,rT⟩:=jo _ _ ij.nx.2
  obtain ⟨wz,YM⟩:∃wz,w.setCell ⟨g,2,none⟩ (.slice (some ⟨k,0,none⟩) (sl.n+1) c)=wz:=⟨_,rfl⟩
  rw[YM] at ij rT ⊢
  cases rT with
  |cons hf B1 hm rT he AZ Ly tH ht =>
   cases ht
   obtain ⟨fa,fn,fc,rfl⟩:=aU hf.1
   obtain ⟨oa,on,oc,rfl⟩:=aU B1.1
   obtain ⟨ma,mn,mc,rfl⟩:=aU hm.1
   obtain ⟨ea,en,ec,rfl⟩:=aU he.1
   obtain ⟨ra,rn,rc,rfl⟩:=aU Ly.1
   obtain ⟨ga,gn,gc,rfl⟩:=aU tH.1
   rename_i QY _ _ _ _ _ _ _ _
   have cW:=ij.bx.own 1 _ (gh hi _)
   simp only[e7,et] at cW ij
   have dK:∀t u,iy.toList[t]?=some u→wz.cell? ⟨k,sl.n*7+t,none⟩=some u:=fun t u ht=>by
    have dr:t<7:=(zB ht).1
    rw[World.ownsRow.cellAt cW (sl.n*7+t) (by omega),←hlen,List.getElem?_append_right (Nat.le_add_right _ _),Nat.add_sub_cancel_left]
    exact ht
   have y0:=dK 0 _ rfl
   have y1:=dK 1 _ rfl
   have y2:=dK 2 _ rfl
   have y3:=dK 3 _ rfl
   have y4:=dK 4 _ rfl
   have y5:=dK 5 _ rfl
   have y6:=dK 6 _ rfl
   have z0:=World.ownsRow.frozenAt cW (sl.n*7)
   have z1:=World.ownsRow.frozenAt cW (sl.n*7+1)
   have z2:=World.ownsRow.frozenAt cW (sl.n*7+2)
   have z3:=World.ownsRow.frozenAt cW (sl.n*7+3)
   have z4:=World.ownsRow.frozenAt cW (sl.n*7+4)
   have z5:=World.ownsRow.frozenAt cW (sl.n*7+5)
   have z6:=World.ownsRow.frozenAt cW (sl.n*7+6)
   rw[Nat.add_zero] at y0
   have pf:=Ap.Ds hi ij (hN.and hM) rfl hlen (.string QY) (.slice fa fn fc) (.slice oa on oc) (.slice ma mn mc) (.slice ea en ec) (.slice ra rn rc) (.slice ga gn gc)
   have HE:Hid (R (.returned (.tuple #[])) (Ds wz k (sl.n*7) (.string QY) (.slice fa fn fc) (.slice oa on oc) (.slice ma mn mc) (.slice ea en ec) (.slice ra rn rc) (.slice ga gn gc))):=by
    refine hR _ _ ?_
    unfold CP
    rw[hr]
    refine ⟨rfl,tm.getD 9 undef,.slice (some ⟨k,0,none⟩) (sl.n+1) c,?_⟩
    rw[e7,et]
    have Tl:(tm.getD 9 undef).cells.toList=[.string QY,.slice fa fn fc,.slice oa on oc,.slice ma mn mc,.slice ea en ec,.slice ra rn rc,.slice ga gn gc]:=by rw[tE];rfl
    rw[Tl]
    exact pf.imp (fun h=>⟨h.1,jo _ _ h.2⟩)
   obtain ⟨u,hu⟩:=IZ cl
   have q9:u 9=.agg #[.string QY,.slice fa fn fc,.slice oa on oc,.slice ma mn mc,.slice ea en ec,.slice ra rn rc,.slice ga gn gc]:=by rw[hu] at tE;exact tE
   have EY:u 10=.int .i64 (sl.n:Int):=by rw[hu] at IS;exact IS
   have Yl:u 12=.slice (some ⟨k,0,none⟩) (sl.n+1) c:=by rw[hu] at NQ;exact NQ
   rw[hu,q9,EY,Yl,←LF]
   obtain ⟨L,hL⟩:∃L,sl.n+1=L:=⟨_,rfl⟩
   rw[hL]
   obtain ⟨n,Zo⟩:∃n,sl.n=n:=⟨_,rfl⟩
   rw[Zo] at y0 y1 y2 y3 y4 y5 y6 z0 z1 z2 z3 z4 z5 z6 HE hL hn ⊢
   have n0:(0:Int)≤(n:Int):=zH _
   have n1:(n:Int)<(L:Int):=by omega
   have n2:n≤100000:=hn
   unfold Ds at HE
   unfold Lh TP
   dsimp only[Tryz.f102]
   clear pf ij cW dK tE IS NQ q9 EY Yl hu hf B1 hm rT he AZ Ly tH lQ Ah cB kj cl hB bd hg ho hl ZZ YM hL Zo hlen jo hM hr h hN hi ei me oX rW fx fk db hR hv e7 et hn k0 k1 oZ
   go_wp2
   rw[←qb]
   go_end0
   exact aa HE
theorem V' (h:Ap lo b g 27 nm ss N V W s w0) (hN:aP N) (hi:ss[1]?=some sl) (eO:Fit 24 sl 160 (nB g)) (hn:sl.n≤100000) (fk:∀P w,N P w→∀c ∈ ([(pm,#[.pointer (some ⟨g,0,none⟩)],108),(pr,#[.pointer (some ⟨b,0,none⟩)],74)]:List (Nat×Array Value×TypeId)),aX c.1 c.2.1 c.2.2 P w) (db:∀w s2 M,aP M→Ap lo b g 27 nm ss (fun P w=>N P w∧M P w) V W s2 w→s2=s→Calls Tryz.prog 103 #[.pointer (some ⟨b,0,none⟩)] w (CR lo b (nB g) w r)) :
  Calls Tryz.prog 102 #[.pointer (some ⟨pm,0,none⟩),.pointer (some ⟨pr,0,none⟩)] w0 (CP lo b g 27 nm ss N V W 1 sl r (nB g)):=by
 have HX:∀w,Below w0.heap.size w0 w→∀iN:Array Value,iN.size=27→iN.getD 0 undef=.pointer (some ⟨pm,0,none⟩)→iN.getD 1 undef=.pointer (some ⟨pr,0,none⟩)→(Code.seq Pf Lh).wp Tryz.prog (bodyPost Tryz.prog Tryz.f102 (CP lo b g 27 nm ss N V W 1 sl r (nB g))) ⟨iN,[]⟩ w∧Pd.wp Tryz.prog (bodyPost Tryz.prog Tryz.f102 (CP lo b g 27 nm ss N V W 1 sl r (nB g))) ⟨iN,[]⟩ w:=fun w hb iN h1 h2 h3 =>
  ⟨Pe (h.up hN hb) hN hi eO hn fk db (fun _ _ h=>h) h1 h2 h3,Pc (h.up hN hb) hN hi eO hn fk db (fun _ _ h=>h) h1 h2 h3⟩
 have SP:=ab HX
 have HB:=ab (zE w0.heap.size w0)
 clear HX h hN hi eO hn fk db
 refine calls_of_wp Tryz.func102 Pb ?_
 rw[Lg]
 obtain ⟨X,hX⟩:∃X,Code.seq Pf Lh=X:=⟨_,rfl⟩
 obtain ⟨Y,hY⟩:∃Y,Pd=Y:=⟨_,rfl⟩
 rw[hX,hY] at SP
 rw[hX,hY]
 obtain ⟨Q,hQ⟩:∃Q,bodyPost Tryz.prog Tryz.f102 (CP lo b g 27 nm ss N V W 1 sl r (nB g))=Q:=⟨_,rfl⟩
 rw[hQ] at SP ⊢
 unfold aar
 dsimp only[Tryz.f102]
 simp only[List.size_toArray,List.length_cons,List.length_nil,Nat.reduceAdd,Nat.reduceSub,Array.replicate_succ,Array.replicate_zero,List.push_toArray,List.append_toArray,List.nil_append,List.cons_append]
 clear hX hY hQ
 go_wp2
 go_region
 all_goals (try go_wp2)
 ·exact (aa SP _ ((aa HB).alloc (zD _) _).drew _ rfl rfl rfl).2
 ·exact (aa SP _ ((aa HB).alloc (zD _) _).drew _ rfl rfl rfl).1
end
end Go.Proofs.YtjophoclfccmcaaGreatDoor

import Derived.Test.YtmlphohdcejniaaGreatDoorM12
set_option maxHeartbeats 4000000
set_option maxRecDepth 100000
namespace Go.Proofs.YtmlphohdcejniaaGreatDoor
open Go.RowKit Go.Shelf
attribute [local go_sem ↓] Go.wp_at_zero Go.wp_at_succ
noncomputable def dE (da:Bool) (s:aI):Except (Int×Int) (ByteArray×aI):=match (if da=true then cw 4 ⟨#[46]⟩ s else .ok (false,s)) with
 |.error e=>.error e
 |.ok (d,s1)=>gw s.here.spot (if d=true then [46] else []) s1
theorem CT (w:World):Lib.IsBuilder 188 5 w.heap.size w.heap.size (Lib.byteCells []) (w.alloc (.cells #[.pointer none,.slice none 0 0] 188)) :=
 .inl ⟨zD _,.slice none 0 0,aC _ _,World.ownsRow_nil _ _ _ _,by simp[Value.ownBlock]⟩
theorem lZ {lb b:Nat}{W:World}{s:aI} (da:Bool) (h:Rd lb W b s) (hs:Sm s) (hn:s.ts.length≤16384):Calls Tryz.prog 119 #[.pointer (some ⟨b,0,none⟩),.bool da] W (PR lb b W Value.string (dE da s)):=by
 have hc:=aj (eV h)
 have eA:=h.low
 have Hd:=aj h
 have Hs:=aj hs
 obtain ⟨t,ht⟩:∃t,s.here=t:=⟨_,rfl⟩
 rw[ht] at hc
 have HF:Hid (dE da s=(match (if da=true then cw 4 ⟨#[46]⟩ s else .ok (false,s)) with|.error e=>.error e|.ok (d,s1)=>gw t.spot (if d=true then [46] else []) s1)):=by show _=_;unfold dE;rw[ht]
 obtain ⟨kd,sp,tx⟩:=t
 unfold Tk.val at hc
 simp only at hc HF
 clear ht h hs
 refine calls_of_wp Tryz.func119 Mt ?_
 obtain ⟨tl,nU⟩:∃t,AB=t:=⟨_,rfl⟩
 rw[nU]
 obtain ⟨Q,hQ⟩:∃Q,bodyPost Tryz.prog Tryz.f119 (PR lb b W Value.string (dE da s))=Q:=⟨_,rfl⟩
 rw[hQ]
 unfold Mu
 dsimp only[Tryz.f119]
 simp only[List.size_toArray,List.length_cons,List.length_nil,Nat.reduceAdd,Nat.reduceSub,Array.replicate_succ,Array.replicate_zero,List.push_toArray,List.append_toArray,List.nil_append,List.cons_append]
 go_wp2_with fail
 refine (aa hc).mono ?_
 rintro e w1 ⟨rfl,bC⟩
 have Lm:=bC.size
 have bH:=(bC.alloc Lm (.cells #[.int .i64 kd,.int .i64 sp,.string tx] 44)).alloc (by rw[zJ];omega) (.cells #[.pointer none,.slice none 0 0] 188)
 have hL:ZK lb b (w1.heap.size+1) w1.heap.size W:=⟨eA.2,Lm,by omega,eA.1⟩
 have hbu:=CT (w1.alloc (.cells #[.int .i64 kd,.int .i64 sp,.string tx] 44))
 rw[zJ] at hbu
 have SL:((w1.alloc (.cells #[.int .i64 kd,.int .i64 sp,.string tx] 44)).alloc (.cells #[.pointer none,.slice none 0 0] 188)).cell? ⟨w1.heap.size,1,none⟩=some (.int .i64 sp):=by
  rw[cell_of_row _ _ _ _ _ _ ((Below.heap_alloc _ _ _ (by rw[zJ];omega)).trans (aC w1 _))]
  rfl
 have hD:Dt lb b (w1.heap.size+1) w1.heap.size W sp [] s ((w1.alloc (.cells #[.int .i64 kd,.int .i64 sp,.string tx] 44)).alloc (.cells #[.pointer none,.slice none 0 0] 188)):=⟨(aa Hd).up bH,aa Hs,hbu,SL,aA b bH,by simp only[List.length_nil];omega⟩
 have HD:=aj hD
 have HL:=aj hL
 clear bC bH hL hbu SL hD hc Lm eA
 cases da with
 |false =>
  simp only[Bool.false_eq_true,if_false] at HF
  go_wp2
  rw[←nU,←hQ]
  refine oG (aa HL) (aa HD) rfl ⟨rfl,rfl,rfl,trivial⟩ ?_
  intro e w hw
  rw[aa HF]
  exact hw
 |true =>
  simp only[if_true] at HF
  go_wp2_with fail
  refine (fO (aa HD).rd _).mono ?_
  intro e w3 hw
  rcases hw.split with ⟨y,hr,rfl,hg⟩|⟨fl,s3,hr,rfl,h3,hg⟩
  ·show Q (Exit.panic _) _ _
   rw[←hQ]
   refine ⟨rfl,?_⟩
   rw[aa HF,hr]
   exact ⟨rfl,(aa HD).gr.trans hg⟩
  ·have xj:Hid (dE true s=gw sp (if fl=true then [46] else []) s3):=by show _=_;rw[aa HF,hr]
   rcases lH hr with ⟨rfl,rfl⟩|⟨rfl,NC,vX⟩
   ·have E9:=aj ((aa HD).read (aa HL) h3 hg (aa HD).sm (zD _))
    clear hw hr hg h3 HD HF
    go_wp2
    rw[←nU,←hQ]
    refine oG (aa HL) (aa E9) rfl ⟨rfl,rfl,rfl,trivial⟩ ?_
    intro e w hw
    rw[aa xj]
    exact hw
   ·have n4:=mF NC (aa HD).rd.grown vX (by decide)
    have IG:=(aa HD).read (aa HL) h3 hg ((aa HD).sm.tail NC) (by omega)
    have E9:=aj IG
    have Gq:=aj (nK (w1.heap.size+1) (w1.heap.size+1) (Lib.byteCells []) 46 w3 IG.bu (by rw[wY];simp) IG.XJ)
    clear hw hr hg h3 IG HD HF NC vX
    go_wp2_with fail
    refine (aa Gq).mono ?_
    rintro e w4 ⟨rfl,eR,Cj⟩
    have Ra:Hid (Dt lb b (w1.heap.size+1) w1.heap.size W sp [46] s3 w4):=(aa E9).write (aa HL) eR Cj (by simp only[List.length_cons,List.length_nil];omega)
    clear eR Cj E9 Gq
    go_wp2
    rw[←nU,←hQ]
    refine oG (aa HL) (aa Ra) rfl ⟨rfl,rfl,rfl,trivial⟩ ?_
    intro e w hw
    rw[aa xj]
    exact hw
structure Fd where
 dF:Int
 key:ByteArray
 ty:ByteArray
 name:ByteArray
 num:Int
 oneof:Int
def Fd.arr (d:Fd):Array Value:=#[.int .i64 d.dF,.string d.key,.string d.ty,.string d.name,.int .i64 d.num,.int .i64 d.oneof]
def Fd.val (d:Fd):Value:=.agg d.arr
theorem ng:(Tryz.prog.info? 70).map (·.size)=some 6:=by kernel_rfl
noncomputable def Ib (d:Fd) (s:aI):Except (Int×Int) (Fd×aI):=match cq s with
 |.error e=>.error e
 |.ok (x,s1)=>match dh 0 2147483647 false s1 with
  |.error e=>.error e
  |.ok (n,s2)=>.ok ({ d with name:=x,num:=n },s2)
theorem ir {w:World}{g:Nat}{a0 a1 a2 a3 a4 a5:Value}{t:TypeId} (h:w.heap[g]?=some (.cells #[a0,a1,a2,a3,a4,a5] t (0,0))):(w.cell? ⟨g,0,none⟩=some a0∧w.cell? ⟨g,1,none⟩=some a1∧w.cell? ⟨g,2,none⟩=some a2∧w.cell? ⟨g,3,none⟩=some a3∧w.cell? ⟨g,4,none⟩=some a4∧w.cell? ⟨g,5,none⟩=some a5)∧∀j,w.frozen? ⟨g,j,none⟩=false:=by
 refine ⟨⟨?_,?_,?_,?_,?_,?_⟩,fun j=>by simp[World.frozen?,h]⟩<;>rw[cell_of_row _ _ _ _ _ _ h]<;>rfl
def nA (w:World) (g:Nat) (a0 a1 a2 a3 a4 a5:Value):World:=(((((w.setCell ⟨g,0,none⟩ a0).setCell ⟨g,1,none⟩ a1).setCell ⟨g,2,none⟩ a2).setCell ⟨g,3,none⟩ a3).setCell ⟨g,4,none⟩ a4).setCell ⟨g,5,none⟩ a5
theorem jZ {w:World}{g:Nat}{b0 b1 b2 b3 b4 b5:Value}{t:TypeId} (h:w.heap[g]?=some (.cells #[b0,b1,b2,b3,b4,b5] t (0,0))) (a0 a1 a2 a3 a4 a5:Value):(nA w g a0 a1 a2 a3 a4 a5).heap[g]?=some (.cells #[a0,a1,a2,a3,a4,a5] t (0,0))∧w.grownBy (nA w g a0 a1 a2 a3 a4 a5) (some g):=by
 obtain ⟨h0,g0⟩:=aJ (j:=0) h a0
 obtain ⟨h1,g1⟩:=aJ (j:=1) h0 a1
 obtain ⟨h2,g2⟩:=aJ (j:=2) h1 a2
 obtain ⟨h3,g3⟩:=aJ (j:=3) h2 a3
 obtain ⟨h4,g4⟩:=aJ (j:=4) h3 a4
 obtain ⟨h5,g5⟩:=aJ (j:=5) h4 a5
 exact ⟨h5,((((g0.trans g1).trans g2).trans g3).trans g4).trans g5⟩
theorem cW {W w w':World}{b g:Nat} (h:W.grownBy w (some b)) (k:w.grownBy w' (some g)) (hl:W.heap.size≤g):W.grownBy w' (some b) :=
 ⟨k.os.trans h.os,k.tape.trans h.tape,k.output.trans h.output,Nat.le_trans h.size k.size,fun i hi eo=>(k.block i (Nat.lt_of_lt_of_le hi h.size) (by simp;omega)).trans (h.block i hi eo)⟩
theorem gf {lb b g:Nat}{s:aI}{w w':World} (h:Rd lb w b s) (k:w.grownBy w' (some g)) (hl:lb≤g):Rd lb w' b s :=
 h.Rp ((zE lb w).grown k h.low.2 (fun i e=>by simp at e;omega))
theorem ud {V W w:World}{b g:Nat} (h:Env V W b) (k:W.grownBy w (some g)) (hl:V.heap.size≤g):Env V w b :=
 ⟨h.f,h.e,h.m,h.below.grown k h.below.size (fun i e=>by simp at e;omega),h.lo⟩
theorem KK {lb b:Nat}{V W:World}{s:aI} (d:Fd) (hv:Env V W b) (h:Rd lb W b s) (hs:Sm s):Calls Tryz.prog 178 #[.pointer (some ⟨b,0,none⟩),d.val] W (PR lb b W Fd.val (Ib d s)):=by
 obtain ⟨c0,k0,t0,n0,m0,o0⟩:=d
 have eA:=h.low
 have hVb:=hv.lo
 have bH:Below W.heap.size W ((W.alloc (.cells #[.int .i64 c0,.string k0,.string t0,.string n0,.int .i64 m0,.int .i64 o0] 70)).alloc (.cells #[.int .i64 0,.string ⟨#[]⟩,.string ⟨#[]⟩,.string ⟨#[]⟩,.int .i64 0,.int .i64 0] 70)):=((zE _ _).alloc (zD _) _).alloc (by rw[zJ];omega) _
 have nT:((W.alloc (.cells #[.int .i64 c0,.string k0,.string t0,.string n0,.int .i64 m0,.int .i64 o0] 70)).alloc (.cells #[.int .i64 0,.string ⟨#[]⟩,.string ⟨#[]⟩,.string ⟨#[]⟩,.int .i64 0,.int .i64 0] 70)).heap[W.heap.size]?=some (.cells #[.int .i64 c0,.string k0,.string t0,.string n0,.int .i64 m0,.int .i64 o0] 70 (0,0)):=(Below.heap_alloc _ _ _ (by rw[zJ];omega)).trans (aC _ _)
 have fF:((W.alloc (.cells #[.int .i64 c0,.string k0,.string t0,.string n0,.int .i64 m0,.int .i64 o0] 70)).alloc (.cells #[.int .i64 0,.string ⟨#[]⟩,.string ⟨#[]⟩,.string ⟨#[]⟩,.int .i64 0,.int .i64 0] 70)).heap[W.heap.size+1]?=some (.cells #[.int .i64 0,.string ⟨#[]⟩,.string ⟨#[]⟩,.string ⟨#[]⟩,.int .i64 0,.int .i64 0] 70 (0,0)):=by
  have:=aC (W.alloc (.cells #[.int .i64 c0,.string k0,.string t0,.string n0,.int .i64 m0,.int .i64 o0] 70)) (.cells #[.int .i64 0,.string ⟨#[]⟩,.string ⟨#[]⟩,.string ⟨#[]⟩,.int .i64 0,.int .i64 0] 70)
  rw[zJ] at this
  exact this
 have hc:=aj (j5 (h.up bH) hs)
 have rJ:=aj (aA b bH)
 have Hv:=aj (hv.step (aA b bH))
 have C6:=aj nT
 have xh:=aj fF
 clear nT fF bH h hv hs
 unfold Fd.val Fd.arr
 simp only
 go_enter Tryz.func178,Tryz.ntmps178
 go_wp2_with fail
 refine (aa hc).mono ?_
 intro e w1 hw
 rcases hw.split with ⟨y,hr,rfl,hg⟩|⟨x,s1,hr,rfl,h1,hg⟩
 ·refine ⟨rfl,?_⟩
  unfold Ib
  rw[hr]
  exact ⟨rfl,(aa rJ).trans hg⟩
 ·have l1:W.heap.size<w1.heap.size:=Nat.lt_of_lt_of_le (zA (aa C6)).1 hg.size
  have p1:=(hg.block W.heap.size (zA (aa C6)).1 (by simp;omega)).trans (aa C6)
  have p2:=(hg.block (W.heap.size+1) (zA (aa xh)).1 (by simp;omega)).trans (aa xh)
  obtain ⟨⟨y0,y1,y2,y3,y4,y5⟩,yf⟩:=ir p1
  have f3:=yf 3
  obtain ⟨q1,g1⟩:=aJ (j:=3) p1 (.string x)
  have q2:=(g1.block (W.heap.size+1) (zA p2).1 (by simp)).trans p2
  have vY:=gf h1 g1 (by omega)
  have Sw:=ud ((aa Hv).step hg) g1 (by omega)
  have kO:=cW ((aa rJ).trans hg) g1 (zD _)
  have Hr:=aj hr
  have HC:=aj (pR 0 2147483647 false Sw vY)
  have Q1:=aj q1
  have Q2:=aj q2
  have zb:=aj kO
  clear hw hr hg h1 p1 p2 yf q1 q2 g1 vY Sw kO C6 xh rJ hc l1
  go_wp2_with fail
  refine (aa HC).mono ?_
  intro e w2 hw
  rcases hw.split with ⟨y,hr,rfl,hg⟩|⟨n,s2,hr,rfl,h2,hg⟩
  ·refine ⟨rfl,?_⟩
   unfold Ib
   rw[aa Hr]
   simp only
   rw[hr]
   exact ⟨rfl,(aa zb).trans hg⟩
  ·have p1:=(hg.block W.heap.size (zA (aa Q1)).1 (by simp;omega)).trans (aa Q1)
   have p2:=(hg.block (W.heap.size+1) (zA (aa Q2)).1 (by simp;omega)).trans (aa Q2)
   simp only[zN,zM] at p1
   obtain ⟨⟨z0,z1,z2,z3,z4,z5⟩,zf⟩:=ir p1
   have f4:=zf 4
   obtain ⟨q1,g1⟩:=aJ (j:=4) p1 (.int .i64 n)
   have q2:=(g1.block (W.heap.size+1) (zA p2).1 (by simp)).trans p2
   simp only[zN,zM] at q1
   obtain ⟨⟨u0,u1,u2,u3,u4,u5⟩,_⟩:=ir q1
   obtain ⟨⟨v0,v1,v2,v3,v4,v5⟩,vf⟩:=ir q2
   have e0:=vf 0
   have e1:=vf 1
   have e2:=vf 2
   have e3:=vf 3
   have e4:=vf 4
   have e5:=vf 5
   obtain ⟨r1,r2⟩:=jZ q2 (.int .i64 c0) (.string k0) (.string t0) (.string x) (.int .i64 n) (.int .i64 o0)
   have HE:Hid (PR lb b W Fd.val (Ib ⟨c0,k0,t0,n0,m0,o0⟩ s) (.returned (.agg #[.int .i64 c0,.string k0,.string t0,.string x,.int .i64 n,.int .i64 o0])) (nA (w2.setCell ⟨W.heap.size,4,none⟩ (.int .i64 n)) (W.heap.size+1) (.int .i64 c0) (.string k0) (.string t0) (.string x) (.int .i64 n) (.int .i64 o0))):=by
    show PR lb b W Fd.val (Ib ⟨c0,k0,t0,n0,m0,o0⟩ s) _ _
    unfold Ib
    rw[aa Hr]
    simp only
    rw[hr]
    exact ⟨rfl,gf (gf h2 g1 (by omega)) r2 (by omega),cW (cW ((aa zb).trans hg) g1 (zD _)) r2 (by omega)⟩
   have R1:=aj r1
   unfold nA at HE R1
   clear hw hr hg h2 p1 p2 zf q1 q2 g1 vf r1 r2 HC Q1 Q2 zb Hr Hv
   unfold qA
   go_wp2
   exact bodyPost_ret (results_cell_row rfl _ _ (W.heap.size+1) 70 #[.int .i64 c0,.string k0,.string t0,.string x,.int .i64 n,.int .i64 o0] (0,0) _ rfl (aa R1) Tryz.underlying70 rfl ng) rfl (aa HE)
def kP (s s1:aI):Prop:=∃k,s1.ts=s.ts.drop k∧s1.op=s.op∧s1.en=s.en
theorem kP.refl (s:aI):kP s s:=⟨0,rfl,rfl,rfl⟩
theorem kP.trans {a b c:aI} (h:kP a b) (k:kP b c):kP a c:=by
 obtain ⟨m,h,h1,h2⟩:=h
 obtain ⟨n,k,k1,k2⟩:=k
 exact ⟨m+n,by rw[k,h,List.drop_drop],k1.trans h1,k2.trans h2⟩
theorem kP.tail {s s1:aI} (h:s1.ts=s.ts.tail) (ho:s1.op=s.op∧s1.en=s.en):kP s s1:=⟨1,by rw[h,List.drop_one],ho⟩
theorem kP.op {s s1:aI} (h:kP s s1):s1.op=s.op:=by
 obtain ⟨_,_,h,_⟩:=h
 exact h
theorem kP.len {s s1:aI} (h:kP s s1):s1.ts.length≤s.ts.length:=by
 obtain ⟨k,h,_⟩:=h
 rw[h,List.length_drop]
 omega
theorem kP.sm {s s1:aI} (h:kP s s1) (k:Sm s):Sm s1:=by
 obtain ⟨n,h,_⟩:=h
 intro t ht
 rw[h] at ht
 exact k t (List.mem_of_mem_drop ht)
theorem dK {k:Int}{x:ByteArray}{s s1:aI}{f:Bool} (h:cw k x s=.ok (f,s1)):kP s s1:=by
 rcases lH h with ⟨_,rfl⟩|⟨_,h1,_⟩
 ·exact .refl _
 ·exact .tail h1 (Fg h)
theorem Bn:∀(f:Nat) (acc:List UInt8) (s:aI) {r:List UInt8}{s1:aI},ew f acc s=.ok (r,s1)→kP s s1
 |0,acc,s,r,s1,h=>by unfold ew at h;cases h
 |f+1,acc,s,r,s1,h=>by
  unfold ew at h
  cases ht:cw 4 ⟨#[46]⟩ s with
  |error e=>rw[ht] at h;cases h
  |ok y =>
   obtain ⟨fl,s2⟩:=y
   rw[ht] at h
   cases fl with
   |false =>
    simp only[Except.ok.injEq,Prod.mk.injEq] at h
    rw[←h.2]
    exact dK ht
   |true =>
    simp only at h
    cases hn:cq s2 with
    |error e=>rw[hn] at h;cases h
    |ok z =>
     rw[hn] at h
     exact ((dK ht).trans (.tail (nk hn).1 (zY hn))).trans (Bn f _ _ h)
theorem yj {first:Int}{acc:List UInt8}{s s1:aI}{x:ByteArray} (h:gw first acc s=.ok (x,s1)):kP s s1:=by
 unfold gw at h
 cases hn:cq s with
 |error e=>rw[hn] at h;cases h
 |ok z =>
  rw[hn] at h
  simp only at h
  cases hl:ew (z.2.ts.length+1) (acc++z.1.data.toList) z.2 with
  |error e=>rw[hl] at h;cases h
  |ok y =>
   rw[hl] at h
   unfold qO at h
   simp only at h
   split at h
   ·cases h
   ·simp only[Except.ok.injEq,Prod.mk.injEq] at h
    rw[←h.2]
    exact (kP.tail (nk hn).1 (zY hn)).trans (Bn _ _ _ hl)
theorem fA {da:Bool}{s s1:aI}{x:ByteArray} (h:dE da s=.ok (x,s1)):kP s s1:=by
 unfold dE at h
 cases da with
 |false =>
  simp only[Bool.false_eq_true,if_false] at h
  exact yj h
 |true =>
  simp only[if_true] at h
  cases ht:cw 4 ⟨#[46]⟩ s with
  |error e=>rw[ht] at h;cases h
  |ok y =>
   rw[ht] at h
   exact (dK ht).trans (yj h)
noncomputable def gZ (d:Fd) (s:aI):Except (Int×Int) (Fd×aI):=match dE true s with
 |.error e=>.error e
 |.ok (x,s1)=>Ib { d with ty:=x } s1
theorem rz {lb b:Nat}{V W:World}{s:aI} (d:Fd) (hv:Env V W b) (h:Rd lb W b s) (hs:Sm s) (hn:s.ts.length≤16384):Calls Tryz.prog 162 #[.pointer (some ⟨b,0,none⟩),d.val] W (PR lb b W Fd.val (gZ d s)):=by
 obtain ⟨c0,k0,t0,n0,m0,o0⟩:=d
 have eA:=h.low
 have hVb:=hv.lo
 have bH:Below W.heap.size W ((W.alloc (.cells #[.int .i64 c0,.string k0,.string t0,.string n0,.int .i64 m0,.int .i64 o0] 70)).alloc (.cells #[.int .i64 0,.string ⟨#[]⟩,.string ⟨#[]⟩,.string ⟨#[]⟩,.int .i64 0,.int .i64 0] 70)):=((zE _ _).alloc (zD _) _).alloc (by rw[zJ];omega) _
 have nT:((W.alloc (.cells #[.int .i64 c0,.string k0,.string t0,.string n0,.int .i64 m0,.int .i64 o0] 70)).alloc (.cells #[.int .i64 0,.string ⟨#[]⟩,.string ⟨#[]⟩,.string ⟨#[]⟩,.int .i64 0,.int .i64 0] 70)).heap[W.heap.size]?=some (.cells #[.int .i64 c0,.string k0,.string t0,.string n0,.int .i64 m0,.int .i64 o0] 70 (0,0)):=(Below.heap_alloc _ _ _ (by rw[zJ];omega)).trans (aC _ _)
 have fF:((W.alloc (.cells #[.int .i64 c0,.string k0,.string t0,.string n0,.int .i64 m0,.int .i64 o0] 70)).alloc (.cells #[.int .i64 0,.string ⟨#[]⟩,.string ⟨#[]⟩,.string ⟨#[]⟩,.int .i64 0,.int .i64 0] 70)).heap[W.heap.size+1]?=some (.cells #[.int .i64 0,.string ⟨#[]⟩,.string ⟨#[]⟩,.string ⟨#[]⟩,.int .i64 0,.int .i64 0] 70 (0,0)):=by
  have:=aC (W.alloc (.cells #[.int .i64 c0,.string k0,.string t0,.string n0,.int .i64 m0,.int .i64 o0] 70)) (.cells #[.int .i64 0,.string ⟨#[]⟩,.string ⟨#[]⟩,.string ⟨#[]⟩,.int .i64 0,.int .i64 0] 70)
  rw[zJ] at this
  exact this
 have hc:=aj (lZ true (h.up bH) hs hn)
 have rJ:=aj (aA b bH)
 have Hv:=aj (hv.step (aA b bH))
 have C6:=aj nT
 have xh:=aj fF
 have HS:=aj hs
 clear nT fF bH h hv hs
 unfold Fd.val Fd.arr
 simp only
 go_enter Tryz.func162,Tryz.ntmps162
 go_wp2_with fail
 refine (aa hc).mono ?_
 intro e w1 hw
 rcases hw.split with ⟨y,hr,rfl,hg⟩|⟨x,s1,hr,rfl,h1,hg⟩
 ·refine ⟨rfl,?_⟩
  unfold gZ
  rw[hr]
  exact ⟨rfl,(aa rJ).trans hg⟩
 ·have p1:=(hg.block W.heap.size (zA (aa C6)).1 (by simp;omega)).trans (aa C6)
  have p2:=(hg.block (W.heap.size+1) (zA (aa xh)).1 (by simp;omega)).trans (aa xh)
  obtain ⟨⟨y0,y1,y2,y3,y4,y5⟩,yf⟩:=ir p1
  have f2:=yf 2
  obtain ⟨q1,g1⟩:=aJ (j:=2) p1 (.string x)
  have q2:=(g1.block (W.heap.size+1) (zA p2).1 (by simp)).trans p2
  simp only[zN,zM] at q1
  obtain ⟨⟨u0,u1,u2,u3,u4,u5⟩,_⟩:=ir q1
  have vY:=gf h1 g1 (by omega)
  have Sw:=ud ((aa Hv).step hg) g1 (by omega)
  have kO:=cW ((aa rJ).trans hg) g1 (zD _)
  have Hr:=aj hr
  have HC:=aj (KK ⟨c0,k0,x,n0,m0,o0⟩ Sw vY ((fA hr).sm (aa HS)))
  have Q2:=aj q2
  have zb:=aj kO
  unfold Fd.val Fd.arr at HC
  simp only at HC
  clear hw hr hg h1 p1 p2 yf q1 q2 g1 vY Sw kO C6 xh rJ hc
  go_wp2_with fail
  refine (aa HC).mono ?_
  intro e w2 hw
  rcases hw.split with ⟨y,hr,rfl,hg⟩|⟨d2,s2,hr,rfl,h2,hg⟩
  ·refine ⟨rfl,?_⟩
   unfold gZ
   rw[aa Hr]
   simp only
   rw[hr]
   exact ⟨rfl,(aa zb).trans hg⟩
  ·obtain ⟨c9,k9,t9,n9,m9,o9⟩:=d2
   simp only
   have p2:=(hg.block (W.heap.size+1) (zA (aa Q2)).1 (by simp;omega)).trans (aa Q2)
   obtain ⟨⟨v0,v1,v2,v3,v4,v5⟩,vf⟩:=ir p2
   have e0:=vf 0
   have e1:=vf 1
   have e2:=vf 2
   have e3:=vf 3
   have e4:=vf 4
   have e5:=vf 5
   obtain ⟨r1,r2⟩:=jZ p2 (.int .i64 c9) (.string k9) (.string t9) (.string n9) (.int .i64 m9) (.int .i64 o9)
   have HE:Hid (PR lb b W Fd.val (gZ ⟨c0,k0,t0,n0,m0,o0⟩ s) (.returned (.agg #[.int .i64 c9,.string k9,.string t9,.string n9,.int .i64 m9,.int .i64 o9])) (nA w2 (W.heap.size+1) (.int .i64 c9) (.string k9) (.string t9) (.string n9) (.int .i64 m9) (.int .i64 o9))):=by
    show PR lb b W Fd.val (gZ ⟨c0,k0,t0,n0,m0,o0⟩ s) _ _
    unfold gZ
    rw[aa Hr]
    simp only
    rw[hr]
    exact ⟨rfl,gf h2 r2 (by omega),cW ((aa zb).trans hg) r2 (by omega)⟩
   have R1:=aj r1
   unfold nA at HE R1
   clear hw hr hg h2 p2 vf r1 r2 HC Q2 zb Hr Hv u0 u1 u2 u3 u4 u5 y0 y1 y2 y3 y4 y5 f2
   go_wp2
   exact bodyPost_ret (results_cell_row rfl _ _ (W.heap.size+1) 70 #[.int .i64 c9,.string k9,.string t9,.string n9,.int .i64 m9,.int .i64 o9] (0,0) _ rfl (aa R1) Tryz.underlying70 rfl ng) rfl (aa HE)
end Go.Proofs.YtmlphohdcejniaaGreatDoor

import Derived.Test.YtichhjfjcinjgaaGreatDoorYM
set_option maxHeartbeats 4000000
set_option maxRecDepth 100000
namespace Go.Proofs.YtichhjfjcinjgaaGreatDoor
open Go.RowKit
attribute [local go_sem ↓] Go.wp_at_zero Go.wp_at_succ
theorem xy:IX 0:=by
 intro W b m vf vo vm ve vr vg nm fs os ms es rs gs cm ce dB hM hV hs w0 x hw hj
 obtain ⟨rfl,LN,Nh,AY,ej,AZ,fl,De,Df⟩:=hV
 obtain ⟨af,cf,rfl,Ph,-⟩:=LN
 obtain ⟨ao,co,rfl,na,-⟩:=Nh
 obtain ⟨am,dh,rfl,Jp,-⟩:=AY
 obtain ⟨ae,dc,rfl,iG,-⟩:=AZ
 obtain ⟨ar,cr,rfl,Tg,-⟩:=De
 obtain ⟨ag,cg,rfl,Ti,-⟩:=Df
 have HJ:=al (GD (cs:=#[.string nm,.slice af fs.length cf,.slice ao os.length co,.slice am ms.length dh,.slice ae es.length dc,.slice ar rs.length cr,.slice ag gs.length cg]) (deep:=33) hw hj)
 rw[show (33:Int)-((0:Nat):Int)=33 by omega]
 unfold nD
 obtain ⟨V,hV⟩:∃V,((w0.alloc (.cells #[.pointer (some ⟨b,0,none⟩)] 113)).alloc (.cells #[.string nm,.slice af fs.length cf,.slice ao os.length co,.slice am ms.length dh,.slice ae es.length dc,.slice ar rs.length cr,.slice ag gs.length cg] 46)).alloc (.cells #[.int .i64 33] 3)=V:=⟨_,rfl⟩
 rw[hV] at HJ
 clear dB hw hj hM ej fl hs
 have AO:=al ((ab HJ).below (below_drewN (zE _ _) 1))
 have hT:(fun w:World=>w.cell? ⟨w0.heap.size+1,0,none⟩=some (.string nm)∧w.cell? ⟨w0.heap.size+1,1,none⟩=some (.slice af fs.length cf)∧w.cell? ⟨w0.heap.size+1,2,none⟩=some (.slice ao os.length co)∧w.cell? ⟨w0.heap.size+1,3,none⟩=some (.slice am ms.length dh)∧w.cell? ⟨w0.heap.size+1,4,none⟩=some (.slice ae es.length dc)∧w.cell? ⟨w0.heap.size+1,5,none⟩=some (.slice ar rs.length cr)∧w.cell? ⟨w0.heap.size+1,6,none⟩=some (.slice ag gs.length cg)∧w.cell? ⟨w0.heap.size,0,none⟩=some (.pointer (some ⟨b,0,none⟩))∧w.cell? ⟨w0.heap.size+1+1,0,none⟩=some (.int .i64 33)) V.drew:=(ab AO).T
 go_enter Tryz.func40,Tryz.ntmps40
 go_upto_region 1 with fail
 refine wp_region_any (by kernel_rfl) (bK (z:=199) (T:=fun w=>w.cell? ⟨w0.heap.size+1,0,none⟩=some (.string nm)∧w.cell? ⟨w0.heap.size+1,1,none⟩=some (.slice af fs.length cf)∧w.cell? ⟨w0.heap.size+1,2,none⟩=some (.slice ao os.length co)∧w.cell? ⟨w0.heap.size+1,3,none⟩=some (.slice am ms.length dh)∧w.cell? ⟨w0.heap.size+1,4,none⟩=some (.slice ae es.length dc)∧w.cell? ⟨w0.heap.size+1,5,none⟩=some (.slice ar rs.length cr)∧w.cell? ⟨w0.heap.size+1,6,none⟩=some (.slice ag gs.length cg)∧w.cell? ⟨w0.heap.size,0,none⟩=some (.pointer (some ⟨b,0,none⟩))∧w.cell? ⟨w0.heap.size+1+1,0,none⟩=some (.int .i64 33)) _ _ _ _ ?_)
 try (change bZ _ _ _ _ _ _ _ _ _ (World.drew _))
 refine aw 0 (.int .i64 33) 7 rfl rfl (Or.inl ⟨by rfl,fun w hw=>by obtain ⟨cL,cE,bM,cZ,eC,eJ,eB,fw,fv⟩:=hw;go_simp⟩) hT ?_
 simp only[Act.put,zL,zM,zN]
 refine aw 1 (.bool false) 8 rfl rfl (Or.inl ⟨by rfl,fun w hw=>by obtain ⟨cL,cE,bM,cZ,eC,eJ,eB,fw,fv⟩:=hw;go_simp⟩) hT ?_
 simp only[Act.put,zL,zM,zN]
 refine cS [2,3,4,5,6,7,8,9,10,11,12,13,14,15,16,17,18,19,20,21,22,23,24,25,26,27,28,29,30,31,32,33,34,35,36,37,38,39,40,41,42,43,44,45,46,47,48,49,50,51,52,53,54,55,56,57,58,59,60,61,62,63,64,65,66,67,68,69,70,71,72,73,74,75,76] 6 hT (by kernel_rfl) (fun t' ht=>?_) (by decide) (by kernel_rfl) (fun _ _ _ _ _ h=>h)
 go_wp2
 go_ret
 rw[ht]
 exact (ab AO).no
theorem ql:∀f,f≤32→IX f
 |0,_=>xy
 |f+1,h=>xz f (by omega) (ql f (by omega))
theorem NR {w:World}{b:Nat}{nm:ByteArray}{vf vo vm ve vr vg:Value}{R:Ending→World→Prop} (hc:Calls Tryz.prog 40 #[.pointer (some ⟨b,0,none⟩),.agg #[.string nm,vf,vo,vm,ve,vr,vg],.int .i64 1] (w.alloc (.cells #[.string nm,vf,vo,vm,ve,vr,vg] 46)) (fun e w'=>(∃q,e=.returned (.bool q))∧R e w')) :
  Calls Tryz.prog 39 #[.agg #[.string nm,vf,vo,vm,ve,vr,vg],.pointer (some ⟨b,0,none⟩)] w fun e w'=>(∃q,e=.returned (.bool q))∧R e w':=by
 obtain ⟨c0,c1,c2,c3,c4,c5,c6⟩:=kD (aK w (.cells #[.string nm,vf,vo,vm,ve,vr,vg] 46))
 have HC:=al hc
 clear hc
 go_enter Tryz.func39,Tryz.ntmps39
 go_wp2_with fail
 refine (ab HC).mono ?_
 rintro e w1 ⟨⟨q,rfl⟩,hr⟩
 have HR:=al hr
 clear hr HC
 go_wp2
 go_ret
 exact ⟨⟨_,rfl⟩,ab HR⟩
theorem Li {W:World} (hM:iB W) {v:Value}{cs:List Value}{l:List Ms} (hv:Rl W v l.length cs) (he:s8 W cs l) (lz:∀m ∈ l,wV 32 m) {b:Nat} (dB:W.heap.size≤b) (w0:World) (x:Int) (hw:Below W.heap.size W w0) (hj:JL b x w0) :
  Calls Tryz.prog 38 #[v,.func (.func 39) #[] #[.pointer (some ⟨b,0,none⟩)]] w0 (jS w0 (some b) (JL b) (jR (nD 32) l x)):=by
 have hS:eQ false W.heap.size W (some b) (JL b) ⟨39,#[],#[.pointer (some ⟨b,0,none⟩)]⟩ (lC 7 cs) l.length (fun i x=>((l[i]?).map fun e=>nD 32 e x).getD none):=by
  intro i hi s w hb jU
  obtain ⟨vf,vo,vm,ve,vr,vg,nm,fs,os,ms,es,rs,gs,cm,ce,e1,h1⟩:=L9 he hi
  have e2:((l[i]?).map fun e=>nD 32 e s).getD none=nD 32 l[i] s:=by rw[List.getElem?_eq_getElem hi];rfl
  simp only[e1,e2,Bool.false_bne]
  show Calls Tryz.prog 39 #[.agg #[.string nm,vf,vo,vm,ve,vr,vg],.pointer (some ⟨b,0,none⟩)] w _
  refine (NR (R:=fun e w'=>e=.returned (.bool (nD 32 l[i] s).isSome)∧(∀s',nD 32 l[i] s=some s'→JL b s' w')∧w.grownBy w' (some b)) ?_).mono (fun _ _ h=>h.2)
  have ED:=World.grownBy_alloc w (.cells #[.string nm,vf,vo,vm,ve,vr,vg] 46) none
  have:=ql 32 (by omega) W b l[i] vf vo vm ve vr vg nm fs os ms es rs gs cm ce dB hM h1 (lz _ (List.getElem_mem hi)) _ s (hb.alloc hb.size _) (nz b _ _ _ jU ED)
  rw[show (33:Int)-((32:Nat):Int)=1 by omega] at this
  refine this.mono ?_
  rintro e w' ⟨rfl,xQ,kH⟩
  exact ⟨⟨_,rfl⟩,rfl,xQ,(World.grownBy_alloc _ _ _).trans kH⟩
 have:=AF hv (fun vs w=>by kernel_rfl) hS (fun k e=>by obtain rfl:=zC e;exact dB) he.len w0 x hw hj (nz b) (fun k e=>by obtain rfl:=zC e;exact (zA hj.1).1)
 rwa [yf (l:=l) (q:=nD 32) (fun i x s hx=>by rw[hx];rfl) rfl] at this
noncomputable def lB (F:Fl):Option Int:=if F.kz.toList.isEmpty ||dv F.kz then match j4 (F.cT.length+F.ms.length+F.es.length) 4096 with
  |none=>none
  |some x1=>if F.cT.all dk then (match jR (nD 32) F.ms x1 with
   |none=>none
   |some x2=>jR iy F.es x2) else none
 else none
theorem MY {W:World}{cs:Array Value}:Jd W W (W.heap.size+1) W.heap.size cs 26 4096 ((W.alloc (.cells cs 26)).alloc (.cells #[.int .i64 4096] 76)):=by
 have hg:W.grownBy ((W.alloc (.cells cs 26)).alloc (.cells #[.int .i64 4096] 76)) none:=(World.grownBy_alloc _ _ _).trans (World.grownBy_alloc _ _ _)
 have n2:=aK (W.alloc (.cells cs 26)) (.cells #[.int .i64 4096] 76)
 rw[zJ] at n2
 refine ⟨⟨hg.os,hg.tape,hg.output,hg.size,fun k hk=>hg.block k hk (by simp)⟩,⟨n2,by omega,by omega⟩,?_,hg.but _⟩
 rw[Below.heap_alloc _ _ _ (by rw[zJ];omega)]
 exact aK _ _
theorem la {W w:World}{r:Option Int}{e:Ending} (h:jS W (some (W.heap.size+1)) (JL (W.heap.size+1)) r e w):e=.returned (.bool r.isSome)∧Below W.heap.size W w:=⟨h.1,h.2.2.os,h.2.2.tape,h.2.2.output,h.2.2.size,fun k hk=>h.2.2.block k hk (by simp;omega)⟩
theorem vk {W:World}{v vi vm ve:Value}{F:Fl}{cm ce:List Value} (hM:iB W) (hF:A6 W v F vi vm ve cm ce) (lz:∀m ∈ F.ms,wV 32 m):Calls Tryz.prog 19 #[v] W fun e w=>e=.returned (.bool (lB F).isSome)∧Below W.heap.size W w:=by
 obtain ⟨rfl,QU,AY,ej,AZ,fl⟩:=hF
 have HN:=al (fun w (h:iB w)=>vY h F.kz)
 have HI:=al (fun w h=>oY QU (fun vs w=>by kernel_rfl) BW w h)
 have HT:=al (fun w x h j=>Li hM AY ej lz (b:=W.heap.size+1) (by omega) w x h j)
 have HE:=al (fun w x h j=>IJ AZ fl (b:=W.heap.size+1) (by omega) w x h j)
 obtain ⟨ai,ci,rfl,Th,-⟩:=QU
 obtain ⟨am,dh,rfl,Jp,-⟩:=AY
 obtain ⟨ae,dc,rfl,iG,-⟩:=AZ
 have HC:=al (fun w jU=>pK (w:=w) (b:=W.heap.size+1) (x:=4096) jU (F.cT.length+F.ms.length+F.es.length) (by omega))
 have XS:Hid (∀w,Below W.heap.size W w→iB w):=fun w h=>hM.up h hM.1
 have HJ:=al (MY (W:=W) (cs:=#[.string F.kz,.slice ai F.cT.length ci,.slice am F.ms.length dh,.slice ae F.es.length dc]))
 obtain ⟨pk,im,ml,el⟩:=F
 unfold lB
 simp only at *
 obtain ⟨q0,h0⟩:∃q,pk.toList.isEmpty=q:=⟨_,rfl⟩
 obtain ⟨q1,h1⟩:∃q,dv pk=q:=⟨_,rfl⟩
 obtain ⟨q2,h2⟩:∃q,im.all dk=q:=⟨_,rfl⟩
 obtain ⟨lx,LS⟩:∃l,j4 (im.length+ml.length+el.length) 4096=l:=⟨_,rfl⟩
 obtain ⟨TG,H5⟩:∃l,jR (nD 32) ml=l:=⟨_,rfl⟩
 obtain ⟨PN,H6⟩:∃l,jR iy el=l:=⟨_,rfl⟩
 rw[h1] at HN ⊢
 rw[h2] at HI ⊢
 rw[LS] at HC ⊢
 rw[H5] at HT ⊢
 rw[H6] at HE ⊢
 rw[h0]
 obtain ⟨V,hV⟩:∃V,(W.alloc (.cells #[.string pk,.slice ai im.length ci,.slice am ml.length dh,.slice ae el.length dc] 26)).alloc (.cells #[.int .i64 4096] 76)=V:=⟨_,rfl⟩
 rw[hV] at HJ
 obtain ⟨c0,c1,c2,c3⟩:=a8 (ab HJ).dj
 clear h1 h2 LS H5 H6 hM ej fl lz
 cases q0 with
 |true =>
  clear HN XS
  go_enter Tryz.func19,Tryz.ntmps19
  go_wp2_with fail
  refine (ab HC _ (ab HJ).jl).mono ?_
  rintro e w2 ⟨rfl,Nx,ed⟩
  clear c0 c1 c2 c3
  cases lx with
  |none =>
   have HX:=al (show jS W (some (W.heap.size+1)) (JL (W.heap.size+1)) none (.returned (.bool false)) w2 from ⟨rfl,fun _ e=>(by cases e),(ab HJ).xU.trans ed⟩)
   clear Nx ed
   go_wp2
   go_ret
   exact la (ab HX)
  |some x1 =>
  have CB:=al ((ab HJ).go (by omega) (by omega) ed (Nx _ rfl))
  obtain ⟨d0,d1,d2,d3⟩:=a8 (ab CB).dj
  clear Nx ed HC HJ
  go_wp2_with fail
  refine (ab HI _ (ab CB).bV).mono ?_
  rintro e w3 ⟨rfl,cC⟩
  have qE:=al ((ab CB).below cC)
  clear d0 d1 d2 d3 cC HI CB
  cases q2 with
  |false =>
   go_wp2
   go_ret
   exact la (ab qE).no
  |true =>
  obtain ⟨d0,d1,d2,d3⟩:=a8 (ab qE).dj
  go_wp2_with fail
  refine (ab HT _ x1 (ab qE).bV (ab qE).jl).mono ?_
  rintro e w4 ⟨rfl,Nw,yw⟩
  clear d0 d1 d2 d3
  cases Pe:TG x1 with
  |none =>
   have HX:=al (show jS W (some (W.heap.size+1)) (JL (W.heap.size+1)) none (.returned (.bool false)) w4 from ⟨rfl,fun _ e=>(by cases e),(ab qE).xU.trans yw⟩)
   clear Nw yw
   go_wp2
   go_ret
   exact la (ab HX)
  |some x2 =>
  have uY:=al ((ab qE).go (by omega) (by omega) yw (Nw _ Pe))
  obtain ⟨d0,d1,d2,d3⟩:=a8 (ab uY).dj
  clear Nw yw HT qE
  go_wp2_with fail
  refine (ab HE _ x2 (ab uY).bV (ab uY).jl).mono ?_
  rintro e w5 ⟨rfl,Rs,Rv⟩
  clear d0 d1 d2 d3
  have HX:=al (show jS W (some (W.heap.size+1)) (JL (W.heap.size+1)) (PN x2) (.returned (.bool (PN x2).isSome)) w5 from ⟨rfl,Rs,(ab uY).xU.trans Rv⟩)
  clear Rs Rv HE uY
  go_wp2
  go_ret
  exact la (ab HX)
 |false =>
  go_enter Tryz.func19,Tryz.ntmps19
  go_wp2_with fail
  refine (ab HN _ (ab XS _ (ab HJ).bV)).mono ?_
  rintro e w1 ⟨rfl,aY⟩
  have qF:=al ((ab HJ).below aY)
  clear aY HJ HN XS c0 c1 c2 c3
  cases q1 with
  |false =>
   go_wp2
   go_ret
   exact la (ab qF).no
  |true =>
  obtain ⟨d0,d1,d2,d3⟩:=a8 (ab qF).dj
  go_wp2_with fail
  refine (ab HC _ (ab qF).jl).mono ?_
  rintro e w2 ⟨rfl,Nx,ed⟩
  clear d0 d1 d2 d3
  cases lx with
  |none =>
   have HX:=al (show jS W (some (W.heap.size+1)) (JL (W.heap.size+1)) none (.returned (.bool false)) w2 from ⟨rfl,fun _ e=>(by cases e),(ab qF).xU.trans ed⟩)
   clear Nx ed
   go_wp2
   go_ret
   exact la (ab HX)
  |some x1 =>
  have CB:=al ((ab qF).go (by omega) (by omega) ed (Nx _ rfl))
  obtain ⟨d0,d1,d2,d3⟩:=a8 (ab CB).dj
  clear Nx ed HC qF
  go_wp2_with fail
  refine (ab HI _ (ab CB).bV).mono ?_
  rintro e w3 ⟨rfl,cC⟩
  have qE:=al ((ab CB).below cC)
  clear d0 d1 d2 d3 cC HI CB
  cases q2 with
  |false =>
   go_wp2
   go_ret
   exact la (ab qE).no
  |true =>
  obtain ⟨d0,d1,d2,d3⟩:=a8 (ab qE).dj
  go_wp2_with fail
  refine (ab HT _ x1 (ab qE).bV (ab qE).jl).mono ?_
  rintro e w4 ⟨rfl,Nw,yw⟩
  clear d0 d1 d2 d3
  cases Pe:TG x1 with
  |none =>
   have HX:=al (show jS W (some (W.heap.size+1)) (JL (W.heap.size+1)) none (.returned (.bool false)) w4 from ⟨rfl,fun _ e=>(by cases e),(ab qE).xU.trans yw⟩)
   clear Nw yw
   go_wp2
   go_ret
   exact la (ab HX)
  |some x2 =>
  have uY:=al ((ab qE).go (by omega) (by omega) yw (Nw _ Pe))
  obtain ⟨d0,d1,d2,d3⟩:=a8 (ab uY).dj
  clear Nw yw HT qE
  go_wp2_with fail
  refine (ab HE _ x2 (ab uY).bV (ab uY).jl).mono ?_
  rintro e w5 ⟨rfl,Rs,Rv⟩
  clear d0 d1 d2 d3
  have HX:=al (show jS W (some (W.heap.size+1)) (JL (W.heap.size+1)) (PN x2) (.returned (.bool (PN x2).isSome)) w5 from ⟨rfl,Rs,(ab uY).xU.trans Rv⟩)
  clear Rs Rv HE uY
  go_wp2
  go_ret
  exact la (ab HX)
end Go.Proofs.YtichhjfjcinjgaaGreatDoor
namespace Go.Proofs.YtichhjfjcinjgaaGreatDoor
open Go.RowKit
theorem A9 {s:ByteArray} (h:bD s=true):mn s:=@of_decide_eq_true _ (Classical.propDecidable _) h
theorem dC {s:ByteArray} (h:bD s=true):s.size≤255:=(A9 h).1.2
theorem BH {s:ByteArray} (h:dv s=true):s.size≤255:=by
 unfold dv at h
 simp only[Bool.and_eq_true,decide_eq_true_eq] at h
 exact h.1
theorem vN {s:ByteArray} (h:gQ s=true):s.size≤255:=by
 unfold gQ at h
 simp only[Bool.and_eq_true,decide_eq_true_eq] at h
 exact h.1
theorem uA {s:ByteArray} (h:s.toList.isEmpty=true):s.size=0:=by
 have:s.toList=[]:=by simpa using h
 rw[toList_data] at this
 have h2:=congrArg List.length this
 rw[Array.length_toList] at h2
 exact h2
theorem Le {d:Fd} (h:mf d=true):d.key.size≤255∧(d.aP=1∨d.aE=0):=by
 unfold mf at h
 split at h
 ·rename_i hc;exact ⟨by have:=uA h;omega,.inl hc⟩
 ·split at h
  ·simp only[Bool.and_eq_true] at h;exact ⟨by have:=uA h.1;omega,.inr (by simpa using h.2)⟩
  ·split at h
   ·simp only[Bool.and_eq_true] at h;exact ⟨vN h.1,.inr (by simpa using h.2)⟩
   ·cases h
theorem uw {d:Fd} (h:cI d=true):((0≤d.num∧d.num≤2147483647)∧d.key.size≤255∧d.ty.size≤255)∧d.name.size≤255:=by
 unfold cI at h
 simp only[Bool.and_eq_true,decide_eq_true_eq] at h
 obtain ⟨⟨⟨⟨h1,h2⟩,h3⟩,h4⟩,h5⟩:=h
 exact ⟨⟨h2,(Le h4).1,vN h3⟩,dC h1⟩
theorem eN (n:Nat) (ps:List ByteArray):(aV n ps).length=2*n+(ps.map ByteArray.size).sum+1:=by
 have h:∀l:List ByteArray,(l.flatMap aI).length=(l.map ByteArray.size).sum:=by
  intro l
  induction l with
  |nil=>rfl
  |cons a r ih=>rw[List.flatMap_cons,zK,ih,List.map_cons,List.sum_cons,aX]
 unfold aV
 rw[zK,zK,List.length_replicate,h]
 rfl
theorem fj (n:Nat) (ps:List ByteArray):mM (aV n ps):=by
 unfold aV
 intro x hx
 simp only[List.mem_append,List.mem_replicate,List.mem_flatMap,List.mem_singleton] at hx
 rcases hx with (⟨_,rfl⟩|⟨s,_,hs⟩)|rfl
 ·decide
 ·exact tr s x hs
 ·decide
theorem ze (s:ByteArray):∀m k,s.size-k≤m→(jH s k).length≤4*(s.size-k):=by
 intro m
 induction m with
 |zero=>intro k hm;rw[nX (by omega)];simp
 |succ m ih =>
  intro k hm
  by_cases hk:k<s.size
  ·rw[pw hk,zK]
   have h1:=Bz s k
   have h2:=LH hk
   have h3:=@By s k
   have h4:=ih (k+qn s k) (by omega)
   omega
  ·rw[nX hk];simp
theorem qi {s:ByteArray} (h:s.size≤255):(bA s).size≤1022:=by
 unfold bA
 rw[jJ]
 have:=ze s _ 0 (zD _)
 simp only[zK,List.length_cons,List.length_nil]
 omega
theorem tm {d:Fd} (hk:d.key.size≤255) (ht:d.ty.size≤255):(qa d).size≤520:=by
 have e1:J2.size=9:=rfl
 have e2:J1.size=9:=rfl
 have e3:J3.size=4:=rfl
 have e4:D8.size=2:=rfl
 have e5:S7.size=1:=rfl
 unfold qa
 split
 ·rw[ByteArray.size_append];omega
 ·split
  ·rw[ByteArray.size_append];omega
  ·split
   ·simp only[ByteArray.size_append];omega
   ·omega
theorem D9 {m:Int}{r:Int×Int} (h1:-2147483648≤r.1∧r.1≤2147483647) (h2:-2147483648≤r.2∧r.2≤2147483647):(eG m r).size≤46:=by
 have e1:mS.size=4:=rfl
 have e2:tz.size=7:=rfl
 have z1:=cQ (n:=r.1) (by omega) (by omega)
 have z2:=cQ (n:=r.2) (by omega) (by omega)
 unfold eG
 split
 ·omega
 ·split
  ·rw[ByteArray.size_append];omega
  ·simp only[ByteArray.size_append];omega
theorem ow (k:Nat) (sep:List UInt8):∀l:List (List UInt8),(∀x ∈ l,x.length≤k)→(Lib.joinTail sep l).length≤(k+sep.length)*l.length
 |[],_=>by simp[Lib.joinTail]
 |a::r,h=>by
  have ih:=ow k sep r (fun x hx=>h x (zF _ hx))
  have h1:=h a (List.mem_cons_self ..)
  have e:Lib.joinTail sep (a::r)=sep++a++Lib.joinTail sep r:=by simp[Lib.joinTail]
  rw[e,zK,zK,List.length_cons,Nat.mul_succ]
  omega
theorem BT {k:Nat}:∀ts:List ByteArray,(∀t ∈ ts,t.size≤k)→(bO ts).size≤(k+2)*ts.length
 |[],_=>zD 0
 |a::r,h=>by
  have h1:=h a (List.mem_cons_self ..)
  have h2:=ow k [44,32] (r.map (·.data.toList)) (fun x hx=>by
   obtain ⟨t,ht,rfl⟩:=List.mem_map.1 hx
   have:=h t (zF _ ht)
   rw[Array.length_toList]
   exact this)
  have e:(bO (a::r)).size=a.size+(Lib.joinTail [44,32] (r.map (·.data.toList))).length:=by
   unfold bO
   rw[List.map_cons,Lib.join_cons]
   show (List.toArray _).size=_
   rw[List.size_toArray,zK,Array.length_toList]
   rfl
  rw[e,List.length_cons,Nat.mul_succ]
  rw[List.length_map] at h2
  have e3:k+[(44:UInt8),32].length=k+2:=rfl
  rw[e3] at h2
  omega
theorem y9 {n k:Nat}{ts:List ByteArray} (h:∀t ∈ ts,t.size≤k):(ez n ts).length≤(2*n+k+20)*ts.length:=by
 unfold ez
 split
 ·rename_i h0
  have h1:=BT ts h
  rw[eN]
  simp only[List.map_cons,List.map_nil,List.sum_cons,List.sum_nil]
  have e1:cB.size=9:=rfl
  have e2:bC.size=1:=rfl
  obtain ⟨m,hm⟩:∃m,ts.length=m+1:=⟨ts.length-1,by omega⟩
  have h3:(2*n+k+20)*ts.length=(k+2)*ts.length+(2*n+18)*ts.length:=by rw[←Nat.add_mul];congr 1;omega
  have h4:2*n+18≤(2*n+18)*ts.length:=Nat.le_mul_of_pos_right _ h0
  omega
 ·simp
theorem oM {α:Type}{g:α→List Nat}{k:Nat}:∀l:List α,(∀x ∈ l,(g x).length≤k)→(l.flatMap g).length≤k*l.length
 |[],_=>by simp
 |a::r,h=>by
  have ih:=oM r (fun x hx=>h x (zF _ hx))
  have h1:=h a (List.mem_cons_self ..)
  rw[List.flatMap_cons,zK,List.length_cons,Nat.mul_succ]
  omega
theorem Gd {lo hi:Int} (h0:-2147483648≤lo) (h1:hi≤2147483647) {rs:List (Int×Int)} (h:rs.all (gd lo hi)=true):∀r ∈ rs,(-2147483648≤r.1∧r.1≤2147483647)∧(-2147483648≤r.2∧r.2≤2147483647):=by
 intro r hr
 have:=List.all_eq_true.1 h r hr
 unfold gd at this
 simp only[Bool.and_eq_true,decide_eq_true_eq] at this
 omega
theorem yY {n:Nat} (hn:n≤100) {most:Int}{rs:List (Int×Int)}{gs:List ByteArray} (hr:∀r ∈ rs,(-2147483648≤r.1∧r.1≤2147483647)∧(-2147483648≤r.2∧r.2≤2147483647)) (hg:∀s ∈ gs,s.size≤255):(eW n most rs gs).length≤2000*(rs.length+gs.length):=by
 unfold eW
 have h1:=y9 (n:=n) (k:=46) (ts:=rs.map (eG most)) (fun t ht=>by obtain ⟨r,oA,rfl⟩:=List.mem_map.1 ht;exact D9 (hr r oA).1 (hr r oA).2)
 have h2:=y9 (n:=n) (k:=1022) (ts:=gs.map bA) (fun t ht=>by obtain ⟨s,hs,rfl⟩:=List.mem_map.1 ht;exact qi (hg s hs))
 rw[List.length_map] at h1 h2
 rw[zK,Nat.mul_add]
 have h3:=Nat.mul_le_mul_right rs.length (show 2*n+46+20≤2000 by omega)
 have h4:=Nat.mul_le_mul_right gs.length (show 2*n+1022+20≤2000 by omega)
 omega
theorem ux {n:Nat} (hn:n≤100) {d:Fd} (h:cI d=true):(bR n d).length≤2000:=by
 obtain ⟨⟨h1,h2,h3⟩,h4⟩:=uw h
 unfold bR
 rw[eN]
 simp only[List.map_cons,List.map_nil,List.sum_cons,List.sum_nil]
 have e1:eS.size=1:=rfl
 have e2:bC.size=1:=rfl
 have e3:ga.size=3:=rfl
 have z1:=cQ (n:=d.num) (by omega) (by omega)
 have z2:=tm h2 h3
 omega
theorem oW {n:Nat} (hn:n≤100) {a b:ByteArray} (ha:a.size≤10) (hb:b.size≤255) (I:List Nat):(cl n a b I).length≤2000+I.length:=by
 unfold cl
 rw[zK,zK,eN,eN]
 simp only[List.map_cons,List.map_nil,List.sum_cons,List.sum_nil]
 have e1:(⟨#[32]⟩:ByteArray).size=1:=rfl
 have e2:(⟨#[32,123]⟩:ByteArray).size=2:=rfl
 have e3:(⟨#[125]⟩:ByteArray).size=1:=rfl
 omega
theorem Il {n:Nat} (hn:n≤100) {e:En} (h:bc e=true) (hx:e.res.length≤4096∧e.gone.length≤4096):IV e∧e.name.size≤255∧(fV n e).length≤2000*(e.aQ.length+e.res.length+e.gone.length):=by
 unfold bc at h
 simp only[Bool.and_eq_true,decide_eq_true_eq] at h
 obtain ⟨⟨⟨⟨h1,h2⟩,h3⟩,h4⟩,h5⟩:=h
 have r2:=Gd (by decide) (by decide) h4
 have g2:∀s ∈ e.gone,s.size≤255:=fun s hs=>dC (List.all_eq_true.1 h5 s hs)
 have v2:∀v ∈ e.aQ,v.1.size≤255∧-2147483648≤v.2∧v.2≤2147483647:=fun v hv=>by
  have:=List.all_eq_true.1 h3 v hv
  unfold ey at this
  simp only[Bool.and_eq_true,decide_eq_true_eq] at this
  exact ⟨dC this.1.1.1,this.2⟩
 refine ⟨⟨hx.1,r2,hx.2,fun s hs=>by have:=g2 s hs;omega,fun v hv=>(v2 v hv).2⟩,dC h1,?_⟩
 unfold fV
 rw[zK]
 have q1:=yY hn (most:=2147483647) r2 g2
 have q2:=oM (g:=gu n) (k:=2000) e.aQ (fun v hv=>by
  unfold gu
  rw[eN]
  simp only[List.map_cons,List.map_nil,List.sum_cons,List.sum_nil]
  have e2:bC.size=1:=rfl
  have e3:ga.size=3:=rfl
  have z0:=v2 v hv
  have z1:=cQ (n:=v.2) (by omega) (by omega)
  omega)
 rw[Nat.add_assoc,Nat.mul_add]
 omega
end Go.Proofs.YtichhjfjcinjgaaGreatDoor

import Derived.Test.YtghioefalckgoaaGreatDoorYM
set_option maxHeartbeats 4000000
set_option maxRecDepth 100000
namespace Go.Proofs.YtghioefalckgoaaGreatDoor
open Go.RowKit
attribute [local go_sem ↓] Go.wp_at_zero Go.wp_at_succ
theorem yF:K5 0:=by
 intro W b m vf vo vm ve vr vg nm fs os ms es rs gs cm ce cK hM hV hs w0 x hw hj
 obtain ⟨rfl,OU,QU,BN,eI,xL,ep,D2,D3⟩:=hV
 obtain ⟨af,cf,rfl,hnf,-⟩:=OU
 obtain ⟨ao,co,rfl,xM,-⟩:=QU
 obtain ⟨am,cq,rfl,Vh,-⟩:=BN
 obtain ⟨ae,cn,rfl,jN,-⟩:=xL
 obtain ⟨ar,cr,rfl,hnr,-⟩:=D2
 obtain ⟨ag,cg,rfl,hng,-⟩:=D3
 have HJ:=ak (Jp (cs:=#[.string nm,.slice af fs.length cf,.slice ao os.length co,.slice am ms.length cq,.slice ae es.length cn,.slice ar rs.length cr,.slice ag gs.length cg]) (deep:=33) hw hj)
 rw[show (33:Int)-((0:Nat):Int)=33 by omega]
 unfold mY
 obtain ⟨V,hV⟩:∃V,((w0.alloc (.cells #[.pointer (some ⟨b,0,none⟩)] 126)).alloc (.cells #[.string nm,.slice af fs.length cf,.slice ao os.length co,.slice am ms.length cq,.slice ae es.length cn,.slice ar rs.length cr,.slice ag gs.length cg] 57)).alloc (.cells #[.int .i64 33] 3)=V:=⟨_,rfl⟩
 rw[hV] at HJ
 clear cK hw hj hM eI ep hs
 have BG:=ak ((ab HJ).below (below_drewN (zE _ _) 1))
 have hT:(fun w:World=>w.cell? ⟨w0.heap.size+1,0,none⟩=some (.string nm)∧w.cell? ⟨w0.heap.size+1,1,none⟩=some (.slice af fs.length cf)∧w.cell? ⟨w0.heap.size+1,2,none⟩=some (.slice ao os.length co)∧w.cell? ⟨w0.heap.size+1,3,none⟩=some (.slice am ms.length cq)∧w.cell? ⟨w0.heap.size+1,4,none⟩=some (.slice ae es.length cn)∧w.cell? ⟨w0.heap.size+1,5,none⟩=some (.slice ar rs.length cr)∧w.cell? ⟨w0.heap.size+1,6,none⟩=some (.slice ag gs.length cg)∧w.cell? ⟨w0.heap.size,0,none⟩=some (.pointer (some ⟨b,0,none⟩))∧w.cell? ⟨w0.heap.size+1+1,0,none⟩=some (.int .i64 33)) V.drew:=(ab BG).T
 go_enter Tryz.func57,Tryz.ntmps57
 go_upto_region 1 with fail
 refine wp_region_any (by kernel_rfl) (aV (z:=199) (T:=fun w=>w.cell? ⟨w0.heap.size+1,0,none⟩=some (.string nm)∧w.cell? ⟨w0.heap.size+1,1,none⟩=some (.slice af fs.length cf)∧w.cell? ⟨w0.heap.size+1,2,none⟩=some (.slice ao os.length co)∧w.cell? ⟨w0.heap.size+1,3,none⟩=some (.slice am ms.length cq)∧w.cell? ⟨w0.heap.size+1,4,none⟩=some (.slice ae es.length cn)∧w.cell? ⟨w0.heap.size+1,5,none⟩=some (.slice ar rs.length cr)∧w.cell? ⟨w0.heap.size+1,6,none⟩=some (.slice ag gs.length cg)∧w.cell? ⟨w0.heap.size,0,none⟩=some (.pointer (some ⟨b,0,none⟩))∧w.cell? ⟨w0.heap.size+1+1,0,none⟩=some (.int .i64 33)) _ _ _ _ ?_)
 try (change ba _ _ _ _ _ _ _ _ _ (World.drew _))
 refine aw 0 (.int .i64 33) 7 rfl rfl (Or.inl ⟨by rfl,fun w hw=>by obtain ⟨bZ,bM,br,cx,dD,dT,dN,eX,eW⟩:=hw;go_simp⟩) hT ?_
 simp only[Act.put,zL,zM,zN]
 refine aw 1 (.bool false) 8 rfl rfl (Or.inl ⟨by rfl,fun w hw=>by obtain ⟨bZ,bM,br,cx,dD,dT,dN,eX,eW⟩:=hw;go_simp⟩) hT ?_
 simp only[Act.put,zL,zM,zN]
 refine ct [2,3,4,5,6,7,8,9,10,11,12,13,14,15,16,17,18,19,20,21,22,23,24,25,26,27,28,29,30,31,32,33,34,35,36,37,38,39,40,41,42,43,44,45,46,47,48,49,50,51,52,53,54,55,56,57,58,59,60,61,62,63,64,65,66,67,68,69,70,71,72,73,74,75,76] 6 hT (by kernel_rfl) (fun t' ht=>?_) (by decide) (by kernel_rfl) (fun _ _ _ _ _ h=>h)
 go_wp2
 go_ret
 rw[ht]
 exact (ab BG).no
theorem qE:∀f,f≤32→K5 f
 |0,_=>yF
 |f+1,h=>yG f (by omega) (qE f (by omega))
theorem RB {w:World}{b:Nat}{nm:ByteArray}{vf vo vm ve vr vg:Value}{R:Ending→World→Prop} (hc:Calls Tryz.prog 57 #[.pointer (some ⟨b,0,none⟩),.agg #[.string nm,vf,vo,vm,ve,vr,vg],.int .i64 1] (w.alloc (.cells #[.string nm,vf,vo,vm,ve,vr,vg] 57)) (fun e w'=>(∃q,e=.returned (.bool q))∧R e w')) :
  Calls Tryz.prog 56 #[.agg #[.string nm,vf,vo,vm,ve,vr,vg],.pointer (some ⟨b,0,none⟩)] w fun e w'=>(∃q,e=.returned (.bool q))∧R e w':=by
 obtain ⟨c0,c1,c2,c3,c4,c5,c6⟩:=kO (aE w (.cells #[.string nm,vf,vo,vm,ve,vr,vg] 57))
 have HC:=ak hc
 clear hc
 go_enter Tryz.func56,Tryz.ntmps56
 go_wp2_with fail
 refine (ab HC).mono ?_
 rintro e w1 ⟨⟨q,rfl⟩,hr⟩
 have HR:=ak hr
 clear hr HC
 go_wp2
 go_ret
 exact ⟨⟨_,rfl⟩,ab HR⟩
theorem Oa {W:World} (hM:gj W) {v:Value}{cs:List Value}{l:List Ms} (hv:Rl W v l.length cs) (he:nS W cs l) (iL:∀m ∈ l,wm 32 m) {b:Nat} (cK:W.heap.size≤b) (w0:World) (x:Int) (hw:Below W.heap.size W w0) (hj:JL b x w0) :
  Calls Tryz.prog 55 #[v,.func (.func 56) #[] #[.pointer (some ⟨b,0,none⟩)]] w0 (jM w0 (some b) (JL b) (gi (mY 32) l x)):=by
 have hS:eo false W.heap.size W (some b) (JL b) ⟨56,#[],#[.pointer (some ⟨b,0,none⟩)]⟩ (lJ 7 cs) l.length (fun i x=>((l[i]?).map fun e=>mY 32 e x).getD none):=by
  intro i hi s w hb jO
  obtain ⟨vf,vo,vm,ve,vr,vg,nm,fs,os,ms,es,rs,gs,cm,ce,e1,h1⟩:=Po he hi
  have e2:((l[i]?).map fun e=>mY 32 e s).getD none=mY 32 l[i] s:=by rw[List.getElem?_eq_getElem hi];rfl
  simp only[e1,e2,Bool.false_bne]
  show Calls Tryz.prog 56 #[.agg #[.string nm,vf,vo,vm,ve,vr,vg],.pointer (some ⟨b,0,none⟩)] w _
  refine (RB (R:=fun e w'=>e=.returned (.bool (mY 32 l[i] s).isSome)∧(∀s',mY 32 l[i] s=some s'→JL b s' w')∧w.grownBy w' (some b)) ?_).mono (fun _ _ h=>h.2)
  have Fz:=World.grownBy_alloc w (.cells #[.string nm,vf,vo,vm,ve,vr,vg] 57) none
  have:=qE 32 (by omega) W b l[i] vf vo vm ve vr vg nm fs os ms es rs gs cm ce cK hM h1 (iL _ (List.getElem_mem hi)) _ s (hb.alloc hb.size _) (nA b _ _ _ jO Fz)
  rw[show (33:Int)-((32:Nat):Int)=1 by omega] at this
  refine this.mono ?_
  rintro e w' ⟨rfl,we,fC⟩
  exact ⟨⟨_,rfl⟩,rfl,we,(World.grownBy_alloc _ _ _).trans fC⟩
 have:=Bw hv (fun vs w=>by kernel_rfl) hS (fun k e=>by obtain rfl:=zC e;exact cK) he.len w0 x hw hj (nA b) (fun k e=>by obtain rfl:=zC e;exact (zA hj.1).1)
 rwa [zt (l:=l) (q:=mY 32) (fun i x s hx=>by rw[hx];rfl) rfl] at this
noncomputable def jG (F:Fl):Option Int:=if F.dj.toList.isEmpty ||fj F.dj then match kQ (F.bp.length+F.ms.length+F.es.length) 4096 with
  |none=>none
  |some x1=>if F.bp.all lq then (match gi (mY 32) F.ms x1 with
   |none=>none
   |some x2=>gi fT F.es x2) else none
 else none
theorem Qx {W:World}{cs:Array Value}:Jd W W (W.heap.size+1) W.heap.size cs 26 4096 ((W.alloc (.cells cs 26)).alloc (.cells #[.int .i64 4096] 88)):=by
 have hg:W.grownBy ((W.alloc (.cells cs 26)).alloc (.cells #[.int .i64 4096] 88)) none:=(World.grownBy_alloc _ _ _).trans (World.grownBy_alloc _ _ _)
 have n2:=aE (W.alloc (.cells cs 26)) (.cells #[.int .i64 4096] 88)
 rw[zJ] at n2
 refine ⟨⟨hg.os,hg.tape,hg.output,hg.size,fun k hk=>hg.block k hk (by simp)⟩,⟨n2,by omega,by omega⟩,?_,hg.but _⟩
 rw[Below.heap_alloc _ _ _ (by rw[zJ];omega)]
 exact aE _ _
theorem lp {W w:World}{r:Option Int}{e:Ending} (h:jM W (some (W.heap.size+1)) (JL (W.heap.size+1)) r e w):e=.returned (.bool r.isSome)∧Below W.heap.size W w:=⟨h.1,h.2.2.os,h.2.2.tape,h.2.2.output,h.2.2.size,fun k hk=>h.2.2.block k hk (by simp;omega)⟩
theorem wM {W:World}{v vi vm ve:Value}{F:Fl}{cm ce:List Value} (hM:gj W) (hF:zy W v F vi vm ve cm ce) (iL:∀m ∈ F.ms,wm 32 m):Calls Tryz.prog 30 #[v] W fun e w=>e=.returned (.bool (jG F).isSome)∧Below W.heap.size W w:=by
 obtain ⟨rfl,UY,BN,eI,xL,ep⟩:=hF
 have HN:=ak (fun w (h:gj w)=>xB h F.dj)
 have HI:=ak (fun w h=>po UY (fun vs w=>by kernel_rfl) CG w h)
 have HT:=ak (fun w x h j=>Oa hM BN eI iL (b:=W.heap.size+1) (by omega) w x h j)
 have HE:=ak (fun w x h j=>KM xL ep (b:=W.heap.size+1) (by omega) w x h j)
 obtain ⟨ai,ci,rfl,hni,-⟩:=UY
 obtain ⟨am,cq,rfl,Vh,-⟩:=BN
 obtain ⟨ae,cn,rfl,jN,-⟩:=xL
 have HC:=ak (fun w jO=>qg (w:=w) (b:=W.heap.size+1) (x:=4096) jO (F.bp.length+F.ms.length+F.es.length) (by omega))
 have HMu:Hid (∀w,Below W.heap.size W w→gj w):=fun w h=>hM.up h hM.1
 have HJ:=ak (Qx (W:=W) (cs:=#[.string F.dj,.slice ai F.bp.length ci,.slice am F.ms.length cq,.slice ae F.es.length cn]))
 obtain ⟨pk,im,ml,el⟩:=F
 unfold jG
 simp only at *
 obtain ⟨q0,h0⟩:∃q,pk.toList.isEmpty=q:=⟨_,rfl⟩
 obtain ⟨q1,h1⟩:∃q,fj pk=q:=⟨_,rfl⟩
 obtain ⟨q2,h2⟩:∃q,im.all lq=q:=⟨_,rfl⟩
 obtain ⟨lx,GJ⟩:∃l,kQ (im.length+ml.length+el.length) 4096=l:=⟨_,rfl⟩
 obtain ⟨Yi,JY⟩:∃l,gi (mY 32) ml=l:=⟨_,rfl⟩
 obtain ⟨TQ,JZ⟩:∃l,gi fT el=l:=⟨_,rfl⟩
 rw[h1] at HN ⊢
 rw[h2] at HI ⊢
 rw[GJ] at HC ⊢
 rw[JY] at HT ⊢
 rw[JZ] at HE ⊢
 rw[h0]
 obtain ⟨V,hV⟩:∃V,(W.alloc (.cells #[.string pk,.slice ai im.length ci,.slice am ml.length cq,.slice ae el.length cn] 26)).alloc (.cells #[.int .i64 4096] 88)=V:=⟨_,rfl⟩
 rw[hV] at HJ
 obtain ⟨c0,c1,c2,c3⟩:=eN (ab HJ).cH
 clear h1 h2 GJ JY JZ hM eI ep iL
 cases q0 with
 |true =>
  clear HN HMu
  go_enter Tryz.func30,Tryz.ntmps30
  go_wp2_with fail
  refine (ab HC _ (ab HJ).jl).mono ?_
  rintro e w2 ⟨rfl,CS,cE⟩
  clear c0 c1 c2 c3
  cases lx with
  |none =>
   have HX:=ak (show jM W (some (W.heap.size+1)) (JL (W.heap.size+1)) none (.returned (.bool false)) w2 from ⟨rfl,fun _ e=>(by cases e),(ab HJ).eQ.trans cE⟩)
   clear CS cE
   go_wp2
   go_ret
   exact lp (ab HX)
  |some x1 =>
  have BH:=ak ((ab HJ).go (by omega) (by omega) cE (CS _ rfl))
  obtain ⟨d0,d1,d2,d3⟩:=eN (ab BH).cH
  clear CS cE HC HJ
  go_wp2_with fail
  refine (ab HI _ (ab BH).bh).mono ?_
  rintro e w3 ⟨rfl,cY⟩
  have qU:=ak ((ab BH).below cY)
  clear d0 d1 d2 d3 cY HI BH
  cases q2 with
  |false =>
   go_wp2
   go_ret
   exact lp (ab qU).no
  |true =>
  obtain ⟨d0,d1,d2,d3⟩:=eN (ab qU).cH
  go_wp2_with fail
  refine (ab HT _ x1 (ab qU).bh (ab qU).jl).mono ?_
  rintro e w4 ⟨rfl,Rd,Nq⟩
  clear d0 d1 d2 d3
  cases Tl:Yi x1 with
  |none =>
   have HX:=ak (show jM W (some (W.heap.size+1)) (JL (W.heap.size+1)) none (.returned (.bool false)) w4 from ⟨rfl,fun _ e=>(by cases e),(ab qU).eQ.trans Nq⟩)
   clear Rd Nq
   go_wp2
   go_ret
   exact lp (ab HX)
  |some x2 =>
  have wF:=ak ((ab qU).go (by omega) (by omega) Nq (Rd _ Tl))
  obtain ⟨d0,d1,d2,d3⟩:=eN (ab wF).cH
  clear Rd Nq HT qU
  go_wp2_with fail
  refine (ab HE _ x2 (ab wF).bh (ab wF).jl).mono ?_
  rintro e w5 ⟨rfl,Vr,Bb⟩
  clear d0 d1 d2 d3
  have HX:=ak (show jM W (some (W.heap.size+1)) (JL (W.heap.size+1)) (TQ x2) (.returned (.bool (TQ x2).isSome)) w5 from ⟨rfl,Vr,(ab wF).eQ.trans Bb⟩)
  clear Vr Bb HE wF
  go_wp2
  go_ret
  exact lp (ab HX)
 |false =>
  go_enter Tryz.func30,Tryz.ntmps30
  go_wp2_with fail
  refine (ab HN _ (ab HMu _ (ab HJ).bh)).mono ?_
  rintro e w1 ⟨rfl,aY⟩
  have pF:=ak ((ab HJ).below aY)
  clear aY HJ HN HMu c0 c1 c2 c3
  cases q1 with
  |false =>
   go_wp2
   go_ret
   exact lp (ab pF).no
  |true =>
  obtain ⟨d0,d1,d2,d3⟩:=eN (ab pF).cH
  go_wp2_with fail
  refine (ab HC _ (ab pF).jl).mono ?_
  rintro e w2 ⟨rfl,CS,cE⟩
  clear d0 d1 d2 d3
  cases lx with
  |none =>
   have HX:=ak (show jM W (some (W.heap.size+1)) (JL (W.heap.size+1)) none (.returned (.bool false)) w2 from ⟨rfl,fun _ e=>(by cases e),(ab pF).eQ.trans cE⟩)
   clear CS cE
   go_wp2
   go_ret
   exact lp (ab HX)
  |some x1 =>
  have BH:=ak ((ab pF).go (by omega) (by omega) cE (CS _ rfl))
  obtain ⟨d0,d1,d2,d3⟩:=eN (ab BH).cH
  clear CS cE HC pF
  go_wp2_with fail
  refine (ab HI _ (ab BH).bh).mono ?_
  rintro e w3 ⟨rfl,cY⟩
  have qU:=ak ((ab BH).below cY)
  clear d0 d1 d2 d3 cY HI BH
  cases q2 with
  |false =>
   go_wp2
   go_ret
   exact lp (ab qU).no
  |true =>
  obtain ⟨d0,d1,d2,d3⟩:=eN (ab qU).cH
  go_wp2_with fail
  refine (ab HT _ x1 (ab qU).bh (ab qU).jl).mono ?_
  rintro e w4 ⟨rfl,Rd,Nq⟩
  clear d0 d1 d2 d3
  cases Tl:Yi x1 with
  |none =>
   have HX:=ak (show jM W (some (W.heap.size+1)) (JL (W.heap.size+1)) none (.returned (.bool false)) w4 from ⟨rfl,fun _ e=>(by cases e),(ab qU).eQ.trans Nq⟩)
   clear Rd Nq
   go_wp2
   go_ret
   exact lp (ab HX)
  |some x2 =>
  have wF:=ak ((ab qU).go (by omega) (by omega) Nq (Rd _ Tl))
  obtain ⟨d0,d1,d2,d3⟩:=eN (ab wF).cH
  clear Rd Nq HT qU
  go_wp2_with fail
  refine (ab HE _ x2 (ab wF).bh (ab wF).jl).mono ?_
  rintro e w5 ⟨rfl,Vr,Bb⟩
  clear d0 d1 d2 d3
  have HX:=ak (show jM W (some (W.heap.size+1)) (JL (W.heap.size+1)) (TQ x2) (.returned (.bool (TQ x2).isSome)) w5 from ⟨rfl,Vr,(ab wF).eQ.trans Bb⟩)
  clear Vr Bb HE wF
  go_wp2
  go_ret
  exact lp (ab HX)
end Go.Proofs.YtghioefalckgoaaGreatDoor
namespace Go.Proofs.YtghioefalckgoaaGreatDoor
open Go.RowKit
theorem BY {s:ByteArray} (h:dG s=true):vS s:=@of_decide_eq_true _ (Classical.propDecidable _) h
theorem fw {s:ByteArray} (h:dG s=true):s.size≤255:=(BY h).1.2
theorem uT {s:ByteArray} (h:fj s=true):s.size≤255:=by
 unfold fj at h
 simp only[Bool.and_eq_true,decide_eq_true_eq] at h
 exact h.1
theorem xi {s:ByteArray} (h:mT s=true):s.size≤255:=by
 unfold mT at h
 simp only[Bool.and_eq_true,decide_eq_true_eq] at h
 exact h.1
theorem vI {s:ByteArray} (h:s.toList.isEmpty=true):s.size=0:=by
 have:s.toList=[]:=by simpa using h
 rw[toList_data] at this
 have h2:=congrArg List.length this
 rw[Array.length_toList] at h2
 exact h2
theorem NZ {d:Fd} (h:vL d=true):d.key.size≤255∧(d.aZ=1∨d.aH=0):=by
 unfold vL at h
 split at h
 ·rename_i hc;exact ⟨by have:=vI h;omega,.inl hc⟩
 ·split at h
  ·simp only[Bool.and_eq_true] at h;exact ⟨by have:=vI h.1;omega,.inr (by simpa using h.2)⟩
  ·split at h
   ·simp only[Bool.and_eq_true] at h;exact ⟨xi h.1,.inr (by simpa using h.2)⟩
   ·cases h
theorem vF {d:Fd} (h:eK d=true):((0≤d.num∧d.num≤2147483647)∧d.key.size≤255∧d.ty.size≤255)∧d.name.size≤255:=by
 unfold eK at h
 simp only[Bool.and_eq_true,decide_eq_true_eq] at h
 obtain ⟨⟨⟨⟨h1,h2⟩,h3⟩,h4⟩,h5⟩:=h
 exact ⟨⟨h2,(NZ h4).1,xi h3⟩,fw h1⟩
theorem gB (n:Nat) (ps:List ByteArray):(bK n ps).length=2*n+(ps.map ByteArray.size).sum+1:=by
 have h:∀l:List ByteArray,(l.flatMap aO).length=(l.map ByteArray.size).sum:=by
  intro l
  induction l with
  |nil=>rfl
  |cons a r ih=>rw[List.flatMap_cons,zK,ih,List.map_cons,List.sum_cons,bg]
 unfold bK
 rw[zK,zK,List.length_replicate,h]
 rfl
theorem eT (n:Nat) (ps:List ByteArray):pz (bK n ps):=by
 unfold bK
 intro x hx
 simp only[List.mem_append,List.mem_replicate,List.mem_flatMap,List.mem_singleton] at hx
 rcases hx with (⟨_,rfl⟩|⟨s,_,hs⟩)|rfl
 ·decide
 ·exact uE s x hs
 ·decide
theorem IQ (s:ByteArray):∀m k,s.size-k≤m→(nF s k).length≤4*(s.size-k):=by
 intro m
 induction m with
 |zero=>intro k hm;rw[uN (by omega)];simp
 |succ m ih =>
  intro k hm
  by_cases hk:k<s.size
  ·rw[xx hk,zK]
   have h1:=Cq s k
   have h2:=OI hk
   have h3:=@IP s k
   have h4:=ih (k+qn s k) (by omega)
   omega
  ·rw[uN hk];simp
theorem qC {s:ByteArray} (h:s.size≤255):(kh s).size≤1022:=by
 unfold kh
 rw[I3]
 have:=IQ s _ 0 (zD _)
 simp only[zK,List.length_cons,List.length_nil]
 omega
theorem B5 {d:Fd} (hk:d.key.size≤255) (ht:d.ty.size≤255):(xj d).size≤520:=by
 have e1:Qh.size=9:=rfl
 have e2:Qg.size=9:=rfl
 have e3:Qi.size=4:=rfl
 have e4:Qj.size=2:=rfl
 have e5:ZU.size=1:=rfl
 unfold xj
 split
 ·rw[ByteArray.size_append];omega
 ·split
  ·rw[ByteArray.size_append];omega
  ·split
   ·simp only[ByteArray.size_append];omega
   ·omega
theorem E1 {m:Int}{r:Int×Int} (h1:-2147483648≤r.1∧r.1≤2147483647) (h2:-2147483648≤r.2∧r.2≤2147483647):(yr m r).size≤46:=by
 have e1:ZS.size=4:=rfl
 have e2:Cm.size=7:=rfl
 have z1:=gC (n:=r.1) (by omega) (by omega)
 have z2:=gC (n:=r.2) (by omega) (by omega)
 unfold yr
 split
 ·omega
 ·split
  ·rw[ByteArray.size_append];omega
  ·simp only[ByteArray.size_append];omega
theorem oP (k:Nat) (sep:List UInt8):∀l:List (List UInt8),(∀x ∈ l,x.length≤k)→(Lib.joinTail sep l).length≤(k+sep.length)*l.length
 |[],_=>by simp[Lib.joinTail]
 |a::r,h=>by
  have ih:=oP k sep r (fun x hx=>h x (zF _ hx))
  have h1:=h a (List.mem_cons_self ..)
  have e:Lib.joinTail sep (a::r)=sep++a++Lib.joinTail sep r:=by simp[Lib.joinTail]
  rw[e,zK,zK,List.length_cons,Nat.mul_succ]
  omega
theorem CD {k:Nat}:∀ts:List ByteArray,(∀t ∈ ts,t.size≤k)→(ni ts).size≤(k+2)*ts.length
 |[],_=>zD 0
 |a::r,h=>by
  have h1:=h a (List.mem_cons_self ..)
  have h2:=oP k [44,32] (r.map (·.data.toList)) (fun x hx=>by
   obtain ⟨t,ht,rfl⟩:=List.mem_map.1 hx
   have:=h t (zF _ ht)
   rw[Array.length_toList]
   exact this)
  have e:(ni (a::r)).size=a.size+(Lib.joinTail [44,32] (r.map (·.data.toList))).length:=by
   unfold ni
   rw[List.map_cons,Lib.join_cons]
   show (List.toArray _).size=_
   rw[List.size_toArray,zK,Array.length_toList]
   rfl
  rw[e,List.length_cons,Nat.mul_succ]
  rw[List.length_map] at h2
  have e3:k+[(44:UInt8),32].length=k+2:=rfl
  rw[e3] at h2
  omega
theorem AJ {n k:Nat}{ts:List ByteArray} (h:∀t ∈ ts,t.size≤k):(qX n ts).length≤(2*n+k+20)*ts.length:=by
 unfold qX
 split
 ·rename_i h0
  have h1:=CD ts h
  rw[gB]
  simp only[List.map_cons,List.map_nil,List.sum_cons,List.sum_nil]
  have e1:Az.size=9:=rfl
  have e2:fM.size=1:=rfl
  obtain ⟨m,hm⟩:∃m,ts.length=m+1:=⟨ts.length-1,by omega⟩
  have h3:(2*n+k+20)*ts.length=(k+2)*ts.length+(2*n+18)*ts.length:=by rw[←Nat.add_mul];congr 1;omega
  have h4:2*n+18≤(2*n+18)*ts.length:=Nat.le_mul_of_pos_right _ h0
  omega
 ·simp
theorem pa {α:Type}{g:α→List Nat}{k:Nat}:∀l:List α,(∀x ∈ l,(g x).length≤k)→(l.flatMap g).length≤k*l.length
 |[],_=>by simp
 |a::r,h=>by
  have ih:=pa r (fun x hx=>h x (zF _ hx))
  have h1:=h a (List.mem_cons_self ..)
  rw[List.flatMap_cons,zK,List.length_cons,Nat.mul_succ]
  omega
theorem yp {lo hi:Int} (h0:-2147483648≤lo) (h1:hi≤2147483647) {rs:List (Int×Int)} (h:rs.all (pP lo hi)=true):∀r ∈ rs,(-2147483648≤r.1∧r.1≤2147483647)∧(-2147483648≤r.2∧r.2≤2147483647):=by
 intro r hr
 have:=List.all_eq_true.1 h r hr
 unfold pP at this
 simp only[Bool.and_eq_true,decide_eq_true_eq] at this
 omega
theorem AB {n:Nat} (hn:n≤100) {most:Int}{rs:List (Int×Int)}{gs:List ByteArray} (hr:∀r ∈ rs,(-2147483648≤r.1∧r.1≤2147483647)∧(-2147483648≤r.2∧r.2≤2147483647)) (hg:∀s ∈ gs,s.size≤255):(lL n most rs gs).length≤2000*(rs.length+gs.length):=by
 unfold lL
 have h1:=AJ (n:=n) (k:=46) (ts:=rs.map (yr most)) (fun t ht=>by obtain ⟨r,mH,rfl⟩:=List.mem_map.1 ht;exact E1 (hr r mH).1 (hr r mH).2)
 have h2:=AJ (n:=n) (k:=1022) (ts:=gs.map kh) (fun t ht=>by obtain ⟨s,hs,rfl⟩:=List.mem_map.1 ht;exact qC (hg s hs))
 rw[List.length_map] at h1 h2
 rw[zK,Nat.mul_add]
 have h3:=Nat.mul_le_mul_right rs.length (show 2*n+46+20≤2000 by omega)
 have h4:=Nat.mul_le_mul_right gs.length (show 2*n+1022+20≤2000 by omega)
 omega
theorem vG {n:Nat} (hn:n≤100) {d:Fd} (h:eK d=true):(bY n d).length≤2000:=by
 obtain ⟨⟨h1,h2,h3⟩,h4⟩:=vF h
 unfold bY
 rw[gB]
 simp only[List.map_cons,List.map_nil,List.sum_cons,List.sum_nil]
 have e1:ZT.size=1:=rfl
 have e2:fM.size=1:=rfl
 have e3:UA.size=3:=rfl
 have z1:=gC (n:=d.num) (by omega) (by omega)
 have z2:=B5 h2 h3
 omega
theorem pj {n:Nat} (hn:n≤100) {a b:ByteArray} (ha:a.size≤10) (hb:b.size≤255) (I:List Nat):(eU n a b I).length≤2000+I.length:=by
 unfold eU
 rw[zK,zK,gB,gB]
 simp only[List.map_cons,List.map_nil,List.sum_cons,List.sum_nil]
 have e1:(⟨#[32]⟩:ByteArray).size=1:=rfl
 have e2:(⟨#[32,123]⟩:ByteArray).size=2:=rfl
 have e3:(⟨#[125]⟩:ByteArray).size=1:=rfl
 omega
theorem Km {n:Nat} (hn:n≤100) {e:En} (h:kH e=true) (hx:e.res.length≤4096∧e.gone.length≤4096):Oi e∧e.name.size≤255∧(fx n e).length≤2000*(e.aW.length+e.res.length+e.gone.length):=by
 unfold kH at h
 simp only[Bool.and_eq_true,decide_eq_true_eq] at h
 obtain ⟨⟨⟨⟨h1,h2⟩,h3⟩,h4⟩,h5⟩:=h
 have r2:=yp (by decide) (by decide) h4
 have g2:∀s ∈ e.gone,s.size≤255:=fun s hs=>fw (List.all_eq_true.1 h5 s hs)
 have v2:∀v ∈ e.aW,v.1.size≤255∧-2147483648≤v.2∧v.2≤2147483647:=fun v hv=>by
  have:=List.all_eq_true.1 h3 v hv
  unfold ju at this
  simp only[Bool.and_eq_true,decide_eq_true_eq] at this
  exact ⟨fw this.1.1.1,this.2⟩
 refine ⟨⟨hx.1,r2,hx.2,fun s hs=>by have:=g2 s hs;omega,fun v hv=>(v2 v hv).2⟩,fw h1,?_⟩
 unfold fx
 rw[zK]
 have q1:=AB hn (most:=2147483647) r2 g2
 have q2:=pa (g:=mO n) (k:=2000) e.aW (fun v hv=>by
  unfold mO
  rw[gB]
  simp only[List.map_cons,List.map_nil,List.sum_cons,List.sum_nil]
  have e2:fM.size=1:=rfl
  have e3:UA.size=3:=rfl
  have z0:=v2 v hv
  have z1:=gC (n:=v.2) (by omega) (by omega)
  omega)
 rw[Nat.add_assoc,Nat.mul_add]
 omega
end Go.Proofs.YtghioefalckgoaaGreatDoor

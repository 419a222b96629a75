import Derived.Test.YtichhjfjcinjgaaGreatDoorYM
set_option maxHeartbeats 4000000
set_option maxRecDepth 100000
namespace Go.Proofs.YtichhjfjcinjgaaGreatDoor
open Go.RowKit
attribute [local go_sem ↓] Go.wp_at_zero Go.wp_at_succ
theorem x8:JG 0:=by
 intro W b m vf vo vm ve vr vg nm fs os ms es rs gs cm ce dF hM hV hs w0 x hw hj
 obtain ⟨rfl,Mt,NT,Bv,eo,Bw,fA,DQ,DR⟩:=hV
 obtain ⟨af,cf,rfl,P0,-⟩:=Mt
 obtain ⟨ao,co,rfl,nJ,-⟩:=NT
 obtain ⟨am,dk,rfl,IC,-⟩:=Bv
 obtain ⟨ae,dc,rfl,iP,-⟩:=Bw
 obtain ⟨ar,cr,rfl,TP,-⟩:=DQ
 obtain ⟨ag,cg,rfl,TQ,-⟩:=DR
 have HJ:=al (Ig (cs:=#[.string nm,.slice af fs.length cf,.slice ao os.length co,.slice am ms.length dk,.slice ae es.length dc,.slice ar rs.length cr,.slice ag gs.length cg]) (deep:=33) hw hj)
 rw[show (33:Int)-((0:Nat):Int)=33 by omega]
 unfold oa
 obtain ⟨V,hV⟩:∃V,((w0.alloc (.cells #[.pointer (some ⟨b,0,none⟩)] 113)).alloc (.cells #[.string nm,.slice af fs.length cf,.slice ao os.length co,.slice am ms.length dk,.slice ae es.length dc,.slice ar rs.length cr,.slice ag gs.length cg] 46)).alloc (.cells #[.int .i64 33] 3)=V:=⟨_,rfl⟩
 rw[hV] at HJ
 clear dF hw hj hM eo fA hs
 have Bl:=al ((ab HJ).below (below_drewN (zE _ _) 1))
 have hT:(fun w:World=>w.cell? ⟨w0.heap.size+1,0,none⟩=some (.string nm)∧w.cell? ⟨w0.heap.size+1,1,none⟩=some (.slice af fs.length cf)∧w.cell? ⟨w0.heap.size+1,2,none⟩=some (.slice ao os.length co)∧w.cell? ⟨w0.heap.size+1,3,none⟩=some (.slice am ms.length dk)∧w.cell? ⟨w0.heap.size+1,4,none⟩=some (.slice ae es.length dc)∧w.cell? ⟨w0.heap.size+1,5,none⟩=some (.slice ar rs.length cr)∧w.cell? ⟨w0.heap.size+1,6,none⟩=some (.slice ag gs.length cg)∧w.cell? ⟨w0.heap.size,0,none⟩=some (.pointer (some ⟨b,0,none⟩))∧w.cell? ⟨w0.heap.size+1+1,0,none⟩=some (.int .i64 33)) V.drew:=(ab Bl).T
 go_enter Tryz.func40,Tryz.ntmps40
 go_upto_region 1 with fail
 refine wp_region_any (by kernel_rfl) (bL (z:=199) (T:=fun w=>w.cell? ⟨w0.heap.size+1,0,none⟩=some (.string nm)∧w.cell? ⟨w0.heap.size+1,1,none⟩=some (.slice af fs.length cf)∧w.cell? ⟨w0.heap.size+1,2,none⟩=some (.slice ao os.length co)∧w.cell? ⟨w0.heap.size+1,3,none⟩=some (.slice am ms.length dk)∧w.cell? ⟨w0.heap.size+1,4,none⟩=some (.slice ae es.length dc)∧w.cell? ⟨w0.heap.size+1,5,none⟩=some (.slice ar rs.length cr)∧w.cell? ⟨w0.heap.size+1,6,none⟩=some (.slice ag gs.length cg)∧w.cell? ⟨w0.heap.size,0,none⟩=some (.pointer (some ⟨b,0,none⟩))∧w.cell? ⟨w0.heap.size+1+1,0,none⟩=some (.int .i64 33)) _ _ _ _ ?_)
 try (change cd _ _ _ _ _ _ _ _ _ (World.drew _))
 refine aw 0 (.int .i64 33) 7 rfl rfl (Or.inl ⟨by rfl,fun w hw=>by obtain ⟨cP,cH,bN,db,eI,eP,eH,fc,fF⟩:=hw;go_simp⟩) hT ?_
 simp only[Act.put,zL,zM,zN]
 refine aw 1 (.bool false) 8 rfl rfl (Or.inl ⟨by rfl,fun w hw=>by obtain ⟨cP,cH,bN,db,eI,eP,eH,fc,fF⟩:=hw;go_simp⟩) hT ?_
 simp only[Act.put,zL,zM,zN]
 refine cW [2,3,4,5,6,7,8,9,10,11,12,13,14,15,16,17,18,19,20,21,22,23,24,25,26,27,28,29,30,31,32,33,34,35,36,37,38,39,40,41,42,43,44,45,46,47,48,49,50,51,52,53,54,55,56,57,58,59,60,61,62,63,64,65,66,67,68,69,70,71,72,73,74,75,76] 6 hT (by kernel_rfl) (fun t' ht=>?_) (by decide) (by kernel_rfl) (fun _ _ _ _ _ h=>h)
 go_wp2
 go_ret
 rw[ht]
 exact (ab Bl).no
theorem qP:∀f,f≤32→JG f
 |0,_=>x8
 |f+1,h=>x9 f (by omega) (qP f (by omega))
theorem Oy {w:World}{b:Nat}{nm:ByteArray}{vf vo vm ve vr vg:Value}{R:Ending→World→Prop} (hc:Calls Tryz.prog 40 #[.pointer (some ⟨b,0,none⟩),.agg #[.string nm,vf,vo,vm,ve,vr,vg],.int .i64 1] (w.alloc (.cells #[.string nm,vf,vo,vm,ve,vr,vg] 46)) (fun e w'=>(∃q,e=.returned (.bool q))∧R e w')) :
  Calls Tryz.prog 39 #[.agg #[.string nm,vf,vo,vm,ve,vr,vg],.pointer (some ⟨b,0,none⟩)] w fun e w'=>(∃q,e=.returned (.bool q))∧R e w':=by
 obtain ⟨c0,c1,c2,c3,c4,c5,c6⟩:=kU (aJ w (.cells #[.string nm,vf,vo,vm,ve,vr,vg] 46))
 have HC:=al hc
 clear hc
 go_enter Tryz.func39,Tryz.ntmps39
 go_wp2_with fail
 refine (ab HC).mono ?_
 rintro e w1 ⟨⟨q,rfl⟩,hr⟩
 have HR:=al hr
 clear hr HC
 go_wp2
 go_ret
 exact ⟨⟨_,rfl⟩,ab HR⟩
theorem LW {W:World} (hM:gX W) {v:Value}{cs:List Value}{l:List Ms} (hv:Rl W v l.length cs) (he:tH W cs l) (kI:∀m ∈ l,tG 32 m) {b:Nat} (dF:W.heap.size≤b) (w0:World) (x:Int) (hw:Below W.heap.size W w0) (hj:JL b x w0) :
  Calls Tryz.prog 38 #[v,.func (.func 39) #[] #[.pointer (some ⟨b,0,none⟩)]] w0 (kd w0 (some b) (JL b) (kc (oa 32) l x)):=by
 have hS:eX false W.heap.size W (some b) (JL b) ⟨39,#[],#[.pointer (some ⟨b,0,none⟩)]⟩ (lV 7 cs) l.length (fun i x=>((l[i]?).map fun e=>oa 32 e x).getD none):=by
  intro i hi s w hb ki
  obtain ⟨vf,vo,vm,ve,vr,vg,nm,fs,os,ms,es,rs,gs,cm,ce,e1,h1⟩:=MK he hi
  have e2:((l[i]?).map fun e=>oa 32 e s).getD none=oa 32 l[i] s:=by rw[List.getElem?_eq_getElem hi];rfl
  simp only[e1,e2,Bool.false_bne]
  show Calls Tryz.prog 39 #[.agg #[.string nm,vf,vo,vm,ve,vr,vg],.pointer (some ⟨b,0,none⟩)] w _
  refine (Oy (R:=fun e w'=>e=.returned (.bool (oa 32 l[i] s).isSome)∧(∀s',oa 32 l[i] s=some s'→JL b s' w')∧w.grownBy w' (some b)) ?_).mono (fun _ _ h=>h.2)
  have Fh:=World.grownBy_alloc w (.cells #[.string nm,vf,vo,vm,ve,vr,vg] 46) none
  have:=qP 32 (by omega) W b l[i] vf vo vm ve vr vg nm fs os ms es rs gs cm ce dF hM h1 (kI _ (List.getElem_mem hi)) _ s (hb.alloc hb.size _) (nX b _ _ _ ki Fh)
  rw[show (33:Int)-((32:Nat):Int)=1 by omega] at this
  refine this.mono ?_
  rintro e w' ⟨rfl,yv,kY⟩
  exact ⟨⟨_,rfl⟩,rfl,yv,(World.grownBy_alloc _ _ _).trans kY⟩
 have:=Bb hv (fun vs w=>by kernel_rfl) hS (fun k e=>by obtain rfl:=zC e;exact dF) he.len w0 x hw hj (nX b) (fun k e=>by obtain rfl:=zC e;exact (zA hj.1).1)
 rwa [yO (l:=l) (q:=oa 32) (fun i x s hx=>by rw[hx];rfl) rfl] at this
noncomputable def lU (F:Fl):Option Int:=if F.jr.toList.isEmpty ||dA F.jr then match ks (F.cX.length+F.ms.length+F.es.length) 4096 with
  |none=>none
  |some x1=>if F.cX.all du then (match kc (oa 32) F.ms x1 with
   |none=>none
   |some x2=>kc iL F.es x2) else none
 else none
theorem NC {W:World}{cs:Array Value}:Jd W W (W.heap.size+1) W.heap.size cs 26 4096 ((W.alloc (.cells cs 26)).alloc (.cells #[.int .i64 4096] 76)):=by
 have hg:W.grownBy ((W.alloc (.cells cs 26)).alloc (.cells #[.int .i64 4096] 76)) none:=(World.grownBy_alloc _ _ _).trans (World.grownBy_alloc _ _ _)
 have n2:=aJ (W.alloc (.cells cs 26)) (.cells #[.int .i64 4096] 76)
 rw[zJ] at n2
 refine ⟨⟨hg.os,hg.tape,hg.output,hg.size,fun k hk=>hg.block k hk (by simp)⟩,⟨n2,by omega,by omega⟩,?_,hg.but _⟩
 rw[Below.heap_alloc _ _ _ (by rw[zJ];omega)]
 exact aJ _ _
theorem lH {W w:World}{r:Option Int}{e:Ending} (h:kd W (some (W.heap.size+1)) (JL (W.heap.size+1)) r e w):e=.returned (.bool r.isSome)∧Below W.heap.size W w:=⟨h.1,h.2.2.os,h.2.2.tape,h.2.2.output,h.2.2.size,fun k hk=>h.2.2.block k hk (by simp;omega)⟩
theorem vT {W:World}{v vi vm ve:Value}{F:Fl}{cm ce:List Value} (hM:gX W) (hF:xE W v F vi vm ve cm ce) (kI:∀m ∈ F.ms,tG 32 m):Calls Tryz.prog 19 #[v] W fun e w=>e=.returned (.bool (lU F).isSome)∧Below W.heap.size W w:=by
 obtain ⟨rfl,Ry,Bv,eo,Bw,fA⟩:=hF
 have HN:=al (fun w (h:gX w)=>wV h F.jr)
 have HI:=al (fun w h=>pz Ry (fun vs w=>by kernel_rfl) Cu w h)
 have HT:=al (fun w x h j=>LW hM Bv eo kI (b:=W.heap.size+1) (by omega) w x h j)
 have HE:=al (fun w x h j=>Js Bw fA (b:=W.heap.size+1) (by omega) w x h j)
 obtain ⟨ai,ci,rfl,RU,-⟩:=Ry
 obtain ⟨am,dk,rfl,IC,-⟩:=Bv
 obtain ⟨ae,dc,rfl,iP,-⟩:=Bw
 have HC:=al (fun w ki=>qh (w:=w) (b:=W.heap.size+1) (x:=4096) ki (F.cX.length+F.ms.length+F.es.length) (by omega))
 have Yt:Hid (∀w,Below W.heap.size W w→gX w):=fun w h=>hM.up h hM.1
 have HJ:=al (NC (W:=W) (cs:=#[.string F.jr,.slice ai F.cX.length ci,.slice am F.ms.length dk,.slice ae F.es.length dc]))
 obtain ⟨pk,im,ml,el⟩:=F
 unfold lU
 simp only at *
 obtain ⟨q0,h0⟩:∃q,pk.toList.isEmpty=q:=⟨_,rfl⟩
 obtain ⟨q1,h1⟩:∃q,dA pk=q:=⟨_,rfl⟩
 obtain ⟨q2,h2⟩:∃q,im.all du=q:=⟨_,rfl⟩
 obtain ⟨lx,Mx⟩:∃l,ks (im.length+ml.length+el.length) 4096=l:=⟨_,rfl⟩
 obtain ⟨Ub,IS⟩:∃l,kc (oa 32) ml=l:=⟨_,rfl⟩
 obtain ⟨Qq,IT⟩:∃l,kc iL el=l:=⟨_,rfl⟩
 rw[h1] at HN ⊢
 rw[h2] at HI ⊢
 rw[Mx] at HC ⊢
 rw[IS] at HT ⊢
 rw[IT] at HE ⊢
 rw[h0]
 obtain ⟨V,hV⟩:∃V,(W.alloc (.cells #[.string pk,.slice ai im.length ci,.slice am ml.length dk,.slice ae el.length dc] 26)).alloc (.cells #[.int .i64 4096] 76)=V:=⟨_,rfl⟩
 rw[hV] at HJ
 obtain ⟨c0,c1,c2,c3⟩:=aP (ab HJ).dt
 clear h1 h2 Mx IS IT hM eo fA kI
 cases q0 with
 |true =>
  clear HN Yt
  go_enter Tryz.func19,Tryz.ntmps19
  go_wp2_with fail
  refine (ab HC _ (ab HJ).jl).mono ?_
  rintro e w2 ⟨rfl,N8,ep⟩
  clear c0 c1 c2 c3
  cases lx with
  |none =>
   have HX:=al (show kd W (some (W.heap.size+1)) (JL (W.heap.size+1)) none (.returned (.bool false)) w2 from ⟨rfl,fun _ e=>(by cases e),(ab HJ).yz.trans ep⟩)
   clear N8 ep
   go_wp2
   go_ret
   exact lH (ab HX)
  |some x1 =>
  have De:=al ((ab HJ).go (by omega) (by omega) ep (N8 _ rfl))
  obtain ⟨d0,d1,d2,d3⟩:=aP (ab De).dt
  clear N8 ep HC HJ
  go_wp2_with fail
  refine (ab HI _ (ab De).bU).mono ?_
  rintro e w3 ⟨rfl,cz⟩
  have ra:=al ((ab De).below cz)
  clear d0 d1 d2 d3 cz HI De
  cases q2 with
  |false =>
   go_wp2
   go_ret
   exact lH (ab ra).no
  |true =>
  obtain ⟨d0,d1,d2,d3⟩:=aP (ab ra).dt
  go_wp2_with fail
  refine (ab HT _ x1 (ab ra).bU (ab ra).jl).mono ?_
  rintro e w4 ⟨rfl,N7,zc⟩
  clear d0 d1 d2 d3
  cases PY:Ub x1 with
  |none =>
   have HX:=al (show kd W (some (W.heap.size+1)) (JL (W.heap.size+1)) none (.returned (.bool false)) w4 from ⟨rfl,fun _ e=>(by cases e),(ab ra).yz.trans zc⟩)
   clear N7 zc
   go_wp2
   go_ret
   exact lH (ab HX)
  |some x2 =>
  have vL:=al ((ab ra).go (by omega) (by omega) zc (N7 _ PY))
  obtain ⟨d0,d1,d2,d3⟩:=aP (ab vL).dt
  clear N7 zc HT ra
  go_wp2_with fail
  refine (ab HE _ x2 (ab vL).bU (ab vL).jl).mono ?_
  rintro e w5 ⟨rfl,Sa,Sd⟩
  clear d0 d1 d2 d3
  have HX:=al (show kd W (some (W.heap.size+1)) (JL (W.heap.size+1)) (Qq x2) (.returned (.bool (Qq x2).isSome)) w5 from ⟨rfl,Sa,(ab vL).yz.trans Sd⟩)
  clear Sa Sd HE vL
  go_wp2
  go_ret
  exact lH (ab HX)
 |false =>
  go_enter Tryz.func19,Tryz.ntmps19
  go_wp2_with fail
  refine (ab HN _ (ab Yt _ (ab HJ).bU)).mono ?_
  rintro e w1 ⟨rfl,aX⟩
  have rb:=al ((ab HJ).below aX)
  clear aX HJ HN Yt c0 c1 c2 c3
  cases q1 with
  |false =>
   go_wp2
   go_ret
   exact lH (ab rb).no
  |true =>
  obtain ⟨d0,d1,d2,d3⟩:=aP (ab rb).dt
  go_wp2_with fail
  refine (ab HC _ (ab rb).jl).mono ?_
  rintro e w2 ⟨rfl,N8,ep⟩
  clear d0 d1 d2 d3
  cases lx with
  |none =>
   have HX:=al (show kd W (some (W.heap.size+1)) (JL (W.heap.size+1)) none (.returned (.bool false)) w2 from ⟨rfl,fun _ e=>(by cases e),(ab rb).yz.trans ep⟩)
   clear N8 ep
   go_wp2
   go_ret
   exact lH (ab HX)
  |some x1 =>
  have De:=al ((ab rb).go (by omega) (by omega) ep (N8 _ rfl))
  obtain ⟨d0,d1,d2,d3⟩:=aP (ab De).dt
  clear N8 ep HC rb
  go_wp2_with fail
  refine (ab HI _ (ab De).bU).mono ?_
  rintro e w3 ⟨rfl,cz⟩
  have ra:=al ((ab De).below cz)
  clear d0 d1 d2 d3 cz HI De
  cases q2 with
  |false =>
   go_wp2
   go_ret
   exact lH (ab ra).no
  |true =>
  obtain ⟨d0,d1,d2,d3⟩:=aP (ab ra).dt
  go_wp2_with fail
  refine (ab HT _ x1 (ab ra).bU (ab ra).jl).mono ?_
  rintro e w4 ⟨rfl,N7,zc⟩
  clear d0 d1 d2 d3
  cases PY:Ub x1 with
  |none =>
   have HX:=al (show kd W (some (W.heap.size+1)) (JL (W.heap.size+1)) none (.returned (.bool false)) w4 from ⟨rfl,fun _ e=>(by cases e),(ab ra).yz.trans zc⟩)
   clear N7 zc
   go_wp2
   go_ret
   exact lH (ab HX)
  |some x2 =>
  have vL:=al ((ab ra).go (by omega) (by omega) zc (N7 _ PY))
  obtain ⟨d0,d1,d2,d3⟩:=aP (ab vL).dt
  clear N7 zc HT ra
  go_wp2_with fail
  refine (ab HE _ x2 (ab vL).bU (ab vL).jl).mono ?_
  rintro e w5 ⟨rfl,Sa,Sd⟩
  clear d0 d1 d2 d3
  have HX:=al (show kd W (some (W.heap.size+1)) (JL (W.heap.size+1)) (Qq x2) (.returned (.bool (Qq x2).isSome)) w5 from ⟨rfl,Sa,(ab vL).yz.trans Sd⟩)
  clear Sa Sd HE vL
  go_wp2
  go_ret
  exact lH (ab HX)
end Go.Proofs.YtichhjfjcinjgaaGreatDoor
namespace Go.Proofs.YtichhjfjcinjgaaGreatDoor
open Go.RowKit
theorem BE {s:ByteArray} (h:bD s=true):mI s:=@of_decide_eq_true _ (Classical.propDecidable _) h
theorem dG {s:ByteArray} (h:bD s=true):s.size≤255:=(BE h).1.2
theorem Cf {s:ByteArray} (h:dA s=true):s.size≤255:=by
 unfold dA at h
 simp only[Bool.and_eq_true,decide_eq_true_eq] at h
 exact h.1
theorem wK {s:ByteArray} (h:gZ s=true):s.size≤255:=by
 unfold gZ at h
 simp only[Bool.and_eq_true,decide_eq_true_eq] at h
 exact h.1
theorem vd {s:ByteArray} (h:s.toList.isEmpty=true):s.size=0:=by
 have:s.toList=[]:=by simpa using h
 rw[toList_data] at this
 have h2:=congrArg List.length this
 rw[Array.length_toList] at h2
 exact h2
theorem LR {d:Fd} (h:mE d=true):d.key.size≤255∧(d.aQ=1∨d.aE=0):=by
 unfold mE at h
 split at h
 ·rename_i hc;exact ⟨by have:=vd h;omega,.inl hc⟩
 ·split at h
  ·simp only[Bool.and_eq_true] at h;exact ⟨by have:=vd h.1;omega,.inr (by simpa using h.2)⟩
  ·split at h
   ·simp only[Bool.and_eq_true] at h;exact ⟨wK h.1,.inr (by simpa using h.2)⟩
   ·cases h
theorem uZ {d:Fd} (h:cL d=true):((0≤d.num∧d.num≤2147483647)∧d.key.size≤255∧d.ty.size≤255)∧d.name.size≤255:=by
 unfold cL at h
 simp only[Bool.and_eq_true,decide_eq_true_eq] at h
 obtain ⟨⟨⟨⟨h1,h2⟩,h3⟩,h4⟩,h5⟩:=h
 exact ⟨⟨h2,(LR h4).1,wK h3⟩,dG h1⟩
theorem eT (n:Nat) (ps:List ByteArray):(aY n ps).length=2*n+(ps.map ByteArray.size).sum+1:=by
 have h:∀l:List ByteArray,(l.flatMap aI).length=(l.map ByteArray.size).sum:=by
  intro l
  induction l with
  |nil=>rfl
  |cons a r ih=>rw[List.flatMap_cons,zK,ih,List.map_cons,List.sum_cons,aZ]
 unfold aY
 rw[zK,zK,List.length_replicate,h]
 rfl
theorem fz (n:Nat) (ps:List ByteArray):ns (aY n ps):=by
 unfold aY
 intro x hx
 simp only[List.mem_append,List.mem_replicate,List.mem_flatMap,List.mem_singleton] at hx
 rcases hx with (⟨_,rfl⟩|⟨s,_,hs⟩)|rfl
 ·decide
 ·exact tU s x hs
 ·decide
theorem Ak (s:ByteArray):∀m k,s.size-k≤m→(jY s k).length≤4*(s.size-k):=by
 intro m
 induction m with
 |zero=>intro k hm;rw[oJ (by omega)];simp
 |succ m ih =>
  intro k hm
  by_cases hk:k<s.size
  ·rw[pS hk,zK]
   have h1:=B7 s k
   have h2:=Ml hk
   have h3:=@B6 s k
   have h4:=ih (k+qn s k) (by omega)
   omega
  ·rw[oJ hk];simp
theorem qN {s:ByteArray} (h:s.size≤255):(bA s).size≤1022:=by
 unfold bA
 rw[j3]
 have:=Ak s _ 0 (zD _)
 simp only[zK,List.length_cons,List.length_nil]
 omega
theorem tQ {d:Fd} (hk:d.key.size≤255) (ht:d.ty.size≤255):(qK d).size≤520:=by
 have e1:KM.size=9:=rfl
 have e2:KL.size=9:=rfl
 have e3:KN.size=4:=rfl
 have e4:EO.size=2:=rfl
 have e5:TH.size=1:=rfl
 unfold qK
 split
 ·rw[ByteArray.size_append];omega
 ·split
  ·rw[ByteArray.size_append];omega
  ·split
   ·simp only[ByteArray.size_append];omega
   ·omega
theorem EP {m:Int}{r:Int×Int} (h1:-2147483648≤r.1∧r.1≤2147483647) (h2:-2147483648≤r.2∧r.2≤2147483647):(eM m r).size≤46:=by
 have e1:nz.size=4:=rfl
 have e2:uj.size=7:=rfl
 have z1:=cU (n:=r.1) (by omega) (by omega)
 have z2:=cU (n:=r.2) (by omega) (by omega)
 unfold eM
 split
 ·omega
 ·split
  ·rw[ByteArray.size_append];omega
  ·simp only[ByteArray.size_append];omega
theorem oS (k:Nat) (sep:List UInt8):∀l:List (List UInt8),(∀x ∈ l,x.length≤k)→(Lib.joinTail sep l).length≤(k+sep.length)*l.length
 |[],_=>by simp[Lib.joinTail]
 |a::r,h=>by
  have ih:=oS k sep r (fun x hx=>h x (zF _ hx))
  have h1:=h a (List.mem_cons_self ..)
  have e:Lib.joinTail sep (a::r)=sep++a++Lib.joinTail sep r:=by simp[Lib.joinTail]
  rw[e,zK,zK,List.length_cons,Nat.mul_succ]
  omega
theorem Cr {k:Nat}:∀ts:List ByteArray,(∀t ∈ ts,t.size≤k)→(bQ ts).size≤(k+2)*ts.length
 |[],_=>zD 0
 |a::r,h=>by
  have h1:=h a (List.mem_cons_self ..)
  have h2:=oS k [44,32] (r.map (·.data.toList)) (fun x hx=>by
   obtain ⟨t,ht,rfl⟩:=List.mem_map.1 hx
   have:=h t (zF _ ht)
   rw[Array.length_toList]
   exact this)
  have e:(bQ (a::r)).size=a.size+(Lib.joinTail [44,32] (r.map (·.data.toList))).length:=by
   unfold bQ
   rw[List.map_cons,Lib.join_cons]
   show (List.toArray _).size=_
   rw[List.size_toArray,zK,Array.length_toList]
   rfl
  rw[e,List.length_cons,Nat.mul_succ]
  rw[List.length_map] at h2
  have e3:k+[(44:UInt8),32].length=k+2:=rfl
  rw[e3] at h2
  omega
theorem Ag {n k:Nat}{ts:List ByteArray} (h:∀t ∈ ts,t.size≤k):(eF n ts).length≤(2*n+k+20)*ts.length:=by
 unfold eF
 split
 ·rename_i h0
  have h1:=Cr ts h
  rw[eT]
  simp only[List.map_cons,List.map_nil,List.sum_cons,List.sum_nil]
  have e1:cF.size=9:=rfl
  have e2:bC.size=1:=rfl
  obtain ⟨m,hm⟩:∃m,ts.length=m+1:=⟨ts.length-1,by omega⟩
  have h3:(2*n+k+20)*ts.length=(k+2)*ts.length+(2*n+18)*ts.length:=by rw[←Nat.add_mul];congr 1;omega
  have h4:2*n+18≤(2*n+18)*ts.length:=Nat.le_mul_of_pos_right _ h0
  omega
 ·simp
theorem pf {α:Type}{g:α→List Nat}{k:Nat}:∀l:List α,(∀x ∈ l,(g x).length≤k)→(l.flatMap g).length≤k*l.length
 |[],_=>by simp
 |a::r,h=>by
  have ih:=pf r (fun x hx=>h x (zF _ hx))
  have h1:=h a (List.mem_cons_self ..)
  rw[List.flatMap_cons,zK,List.length_cons,Nat.mul_succ]
  omega
theorem GZ {lo hi:Int} (h0:-2147483648≤lo) (h1:hi≤2147483647) {rs:List (Int×Int)} (h:rs.all (gC lo hi)=true):∀r ∈ rs,(-2147483648≤r.1∧r.1≤2147483647)∧(-2147483648≤r.2∧r.2≤2147483647):=by
 intro r hr
 have:=List.all_eq_true.1 h r hr
 unfold gC at this
 simp only[Bool.and_eq_true,decide_eq_true_eq] at this
 omega
theorem Ab {n:Nat} (hn:n≤100) {most:Int}{rs:List (Int×Int)}{gs:List ByteArray} (hr:∀r ∈ rs,(-2147483648≤r.1∧r.1≤2147483647)∧(-2147483648≤r.2∧r.2≤2147483647)) (hg:∀s ∈ gs,s.size≤255):(fg n most rs gs).length≤2000*(rs.length+gs.length):=by
 unfold fg
 have h1:=Ag (n:=n) (k:=46) (ts:=rs.map (eM most)) (fun t ht=>by obtain ⟨r,oV,rfl⟩:=List.mem_map.1 ht;exact EP (hr r oV).1 (hr r oV).2)
 have h2:=Ag (n:=n) (k:=1022) (ts:=gs.map bA) (fun t ht=>by obtain ⟨s,hs,rfl⟩:=List.mem_map.1 ht;exact qN (hg s hs))
 rw[List.length_map] at h1 h2
 rw[zK,Nat.mul_add]
 have h3:=Nat.mul_le_mul_right rs.length (show 2*n+46+20≤2000 by omega)
 have h4:=Nat.mul_le_mul_right gs.length (show 2*n+1022+20≤2000 by omega)
 omega
theorem u6 {n:Nat} (hn:n≤100) {d:Fd} (h:cL d=true):(bT n d).length≤2000:=by
 obtain ⟨⟨h1,h2,h3⟩,h4⟩:=uZ h
 unfold bT
 rw[eT]
 simp only[List.map_cons,List.map_nil,List.sum_cons,List.sum_nil]
 have e1:eZ.size=1:=rfl
 have e2:bC.size=1:=rfl
 have e3:gB.size=3:=rfl
 have z1:=cU (n:=d.num) (by omega) (by omega)
 have z2:=tQ h2 h3
 omega
theorem px {n:Nat} (hn:n≤100) {a b:ByteArray} (ha:a.size≤10) (hb:b.size≤255) (I:List Nat):(ct n a b I).length≤2000+I.length:=by
 unfold ct
 rw[zK,zK,eT,eT]
 simp only[List.map_cons,List.map_nil,List.sum_cons,List.sum_nil]
 have e1:(⟨#[32]⟩:ByteArray).size=1:=rfl
 have e2:(⟨#[32,123]⟩:ByteArray).size=2:=rfl
 have e3:(⟨#[125]⟩:ByteArray).size=1:=rfl
 omega
theorem I7 {n:Nat} (hn:n≤100) {e:En} (h:bc e=true) (hx:e.res.length≤4096∧e.gone.length≤4096):JD e∧e.name.size≤255∧(gp n e).length≤2000*(e.aR.length+e.res.length+e.gone.length):=by
 unfold bc at h
 simp only[Bool.and_eq_true,decide_eq_true_eq] at h
 obtain ⟨⟨⟨⟨h1,h2⟩,h3⟩,h4⟩,h5⟩:=h
 have r2:=GZ (by decide) (by decide) h4
 have g2:∀s ∈ e.gone,s.size≤255:=fun s hs=>dG (List.all_eq_true.1 h5 s hs)
 have v2:∀v ∈ e.aR,v.1.size≤255∧-2147483648≤v.2∧v.2≤2147483647:=fun v hv=>by
  have:=List.all_eq_true.1 h3 v hv
  unfold eD at this
  simp only[Bool.and_eq_true,decide_eq_true_eq] at this
  exact ⟨dG this.1.1.1,this.2⟩
 refine ⟨⟨hx.1,r2,hx.2,fun s hs=>by have:=g2 s hs;omega,fun v hv=>(v2 v hv).2⟩,dG h1,?_⟩
 unfold gp
 rw[zK]
 have q1:=Ab hn (most:=2147483647) r2 g2
 have q2:=pf (g:=gG n) (k:=2000) e.aR (fun v hv=>by
  unfold gG
  rw[eT]
  simp only[List.map_cons,List.map_nil,List.sum_cons,List.sum_nil]
  have e2:bC.size=1:=rfl
  have e3:gB.size=3:=rfl
  have z0:=v2 v hv
  have z1:=cU (n:=v.2) (by omega) (by omega)
  omega)
 rw[Nat.add_assoc,Nat.mul_add]
 omega
end Go.Proofs.YtichhjfjcinjgaaGreatDoor

import Derived.Test.YtjophoclfccmcaaGreatDoorPbT
set_option maxHeartbeats 4000000
set_option maxRecDepth 100000
namespace Go.Proofs.YtjophoclfccmcaaGreatDoor
open Go.RowKit
attribute [local go_sem ↓] Go.wp_at_zero Go.wp_at_succ
theorem SE {lo b g K op p2 p3 mb:Nat}{nm:ByteArray}{N:(Nat→Prop)→World→Prop}{V W:World} (hN:aQ N) (hK:K≤16384) (fh:∀P w,N P w→aW p2 #[.pointer (some ⟨b,0,none⟩)] 74 P w) (px:∀P w,N P w→aW p3 #[.pointer (some ⟨g,0,none⟩)] 158 P w) (hm:∀P w,N P w→iJ mb (jT b) P w) :
  EE (mP lo b g K op nm N V W) (Sv g b W) lo b mb (jT b) (.func (.func 170) #[] #[.pointer (some ⟨p3,0,none⟩),.pointer (some ⟨p2,0,none⟩)]) rS z7:=by
 refine ⟨fun x s w h=>h.rd,fun x s w s' w' h hr hg hs=>h.step hN hr hg hs,fun x s w w' h hg=>h.er hg,fun x s w h=>?_,fun k=>?_,fun k v f hv hf x s w h hk ht=>?_,fun x s w h=>?_⟩
 ·obtain ⟨_,⟨vf,vo,vm,ve,vr,vg,cm,ce,bd⟩,_⟩:=h
  exact ⟨_,hm _ _ bd.nx.1⟩
 ·unfold jT rS
  simp only[jQ]
  by_cases q0:(k==⟨#[111,112,116,105,111,110]⟩)=true
  ·exact .inr ⟨_,_,_,_,by rw[if_pos q0],by rw[if_pos q0]⟩
  rw[if_neg q0,if_neg q0]
  by_cases q1:(k==⟨#[103,114,111,117,112]⟩)=true
  ·exact .inr ⟨_,_,_,_,by rw[if_pos q1],by rw[if_pos q1]⟩
  rw[if_neg q1,if_neg q1]
  by_cases q2:(k==⟨#[111,112,116,105,111,110,97,108]⟩)=true
  ·exact .inr ⟨_,_,_,_,by rw[if_pos q2],by rw[if_pos q2]⟩
  rw[if_neg q2,if_neg q2]
  by_cases q3:(k==⟨#[114,101,112,101,97,116,101,100]⟩)=true
  ·exact .inr ⟨_,_,_,_,by rw[if_pos q3],by rw[if_pos q3]⟩
  rw[if_neg q3,if_neg q3]
  by_cases q4:(k==⟨#[114,101,113,117,105,114,101,100]⟩)=true
  ·exact .inr ⟨_,_,_,_,by rw[if_pos q4],by rw[if_pos q4]⟩
  rw[if_neg q4,if_neg q4]
  by_cases q5:(k==⟨#[111,110,101,111,102]⟩)=true
  ·exact .inr ⟨_,_,_,_,by rw[if_pos q5],by rw[if_pos q5]⟩
  rw[if_neg q5,if_neg q5]
  by_cases q6:(k==⟨#[109,101,115,115,97,103,101]⟩)=true
  ·exact .inr ⟨_,_,_,_,by rw[if_pos q6],by rw[if_pos q6]⟩
  rw[if_neg q6,if_neg q6]
  by_cases q7:(k==⟨#[101,110,117,109]⟩)=true
  ·exact .inr ⟨_,_,_,_,by rw[if_pos q7],by rw[if_pos q7]⟩
  rw[if_neg q7,if_neg q7]
  by_cases q8:(k==⟨#[114,101,115,101,114,118,101,100]⟩)=true
  ·exact .inr ⟨_,_,_,_,by rw[if_pos q8],by rw[if_pos q8]⟩
  rw[if_neg q8,if_neg q8]
  exact .inl ⟨rfl,rfl⟩
 ·unfold jT at hv
  unfold rS at hf
  simp only[jQ] at hv
  by_cases q0:(k==⟨#[111,112,116,105,111,110]⟩)=true
  ·rw[if_pos q0] at hv hf
   obtain rfl:=zC hv
   obtain rfl:=zC hf
   exact dH h.rd (fun w' hg=>h.er hg)
  rw[if_neg q0] at hv hf
  by_cases q1:(k==⟨#[103,114,111,117,112]⟩)=true
  ·rw[if_pos q1] at hv hf
   obtain rfl:=zC hv
   obtain rfl:=zC hf
   exact dH h.rd (fun w' hg=>h.er hg)
  rw[if_neg q1] at hv hf
  by_cases q2:(k==⟨#[111,112,116,105,111,110,97,108]⟩)=true
  ·rw[if_pos q2] at hv hf
   obtain rfl:=zC hv
   obtain rfl:=zC hf
   exact dH h.rd (fun w' hg=>h.er hg)
  rw[if_neg q2] at hv hf
  by_cases q3:(k==⟨#[114,101,112,101,97,116,101,100]⟩)=true
  ·rw[if_pos q3] at hv hf
   obtain rfl:=zC hv
   obtain rfl:=zC hf
   exact dH h.rd (fun w' hg=>h.er hg)
  rw[if_neg q3] at hv hf
  by_cases q4:(k==⟨#[114,101,113,117,105,114,101,100]⟩)=true
  ·rw[if_pos q4] at hv hf
   obtain rfl:=zC hv
   obtain rfl:=zC hf
   exact dH h.rd (fun w' hg=>h.er hg)
  rw[if_neg q4] at hv hf
  by_cases q5:(k==⟨#[111,110,101,111,102]⟩)=true
  ·rw[if_pos q5] at hv hf
   obtain rfl:=zC hv
   obtain rfl:=zC hf
   exact dH h.rd (fun w' hg=>h.er hg)
  rw[if_neg q5] at hv hf
  by_cases q6:(k==⟨#[109,101,115,115,97,103,101]⟩)=true
  ·rw[if_pos q6] at hv hf
   obtain rfl:=zC hv
   obtain rfl:=zC hf
   exact dH h.rd (fun w' hg=>h.er hg)
  rw[if_neg q6] at hv hf
  by_cases q7:(k==⟨#[101,110,117,109]⟩)=true
  ·rw[if_pos q7] at hv hf
   obtain rfl:=zC hv
   obtain rfl:=zC hf
   exact dH h.rd (fun w' hg=>h.er hg)
  rw[if_neg q7] at hv hf
  by_cases q8:(k==⟨#[114,101,115,101,114,118,101,100]⟩)=true
  ·rw[if_pos q8] at hv hf
   obtain rfl:=zC hv
   obtain rfl:=zC hf
   exact dH h.rd (fun w' hg=>h.er hg)
  rw[if_neg q8] at hv hf
  cases hv
 ·obtain ⟨jq,⟨vf,vo,vm,ve,vr,vg,cm,ce,bd⟩,hk⟩:=h
  have rB:=hk
  obtain ⟨⟨l1,l2,l3,l4,l5,l6⟩,fJ,hn,jU⟩:=hk
  refine ⟨_,_,_,rfl,Em w,?_⟩
  refine (FJ (pm:=p3) (pr:=p2) (bt:=72) (r:=cq (x.os.length:Int) s) (sl:=⟨45,6,vf,x.fs.length,mI x.fs⟩) (so:=⟨9,1,vo,x.os.length,dR x.os⟩) (N1:=fun a x _ _=>x=a.val) rfl bd (tU.st hN _ _ _) (fun _ _=>fun _ _ _ _ _ h=>h) rfl (rI rfl rfl) (by simp only;omega) (fun P w hw c hc=>?_) (fun w' l7=>(sC (x.os.length:Int) l7.ev l7.rd fJ (by omega)).mono fun e w2 h2=>h2.cr)).mono ?_
  ·simp only[List.mem_cons,List.not_mem_nil,or_false] at hc
   rcases hc with rfl|rfl
   ·exact px P w hw.1
   ·exact fh P w hw.1
  ·intro e w' hw
   exact yv jq rB (.inr (fun d s' hr=>(jN hr).2 bd.rd.grown)) (fun d s' hr=>(jN hr).1) hw
noncomputable def z8:Code:=match Tryz.f147.body with
 |some (.seq _ (.seq _ (.seq _ t)))=>t
 |_=>.skip
noncomputable def MW (t:Code):Code:=match Tryz.f147.body with
 |some (.seq a (.seq b (.seq c _)))=>.seq a (.seq b (.seq c t))
 |_=>.skip
theorem MS:Tryz.f147.body=some (MW z8):=rfl
noncomputable def YH:Code:=match z8 with
 |.seq a _=>a
 |_=>.skip
noncomputable def Bz:Code:=match z8 with
 |.seq _ t=>t
 |_=>.skip
theorem J8:z8=.seq YH Bz:=rfl
noncomputable def YG:Code:=match Bz with
 |.seq a _=>a
 |_=>.skip
noncomputable def DB:Code:=match Bz with
 |.seq _ t=>t
 |_=>.skip
theorem J7:Bz=.seq YG DB:=rfl
noncomputable def YF:Code:=match DB with
 |.seq a _=>a
 |_=>.skip
noncomputable def Rb:Code:=match DB with
 |.seq _ t=>t
 |_=>.skip
theorem J6:DB=.seq YF Rb:=rfl
section
variable {lo b g K op p2 p3 : Nat} {nm : ByteArray} {N : (Nat → Prop) → World → Prop} {V W w : World} {x : Mp} {s : ay} {R : Ending → World → Prop}
theorem MX {k:Nat} (h:mP lo b g K op nm N V W x s w) (hN:aQ N) (fh:∀P w,N P w→aW p2 #[.pointer (some ⟨b,0,none⟩)] 74 P w) (px:∀P w,N P w→aW p3 #[.pointer (some ⟨g,0,none⟩)] 158 P w) (bD:aJ s.here 4 ⟨#[125]⟩=true) {tm:Array Value} (ck:tm.size=41) (j7:Jc tm [(2,.pointer (some ⟨p2,0,none⟩)),(3,.pointer (some ⟨p3,0,none⟩)),(4,.int .i64 (k:Int))])
  (hR:∀e w,IP (mP lo b g K op nm N V W) (Sv g b W) (nc k x s) e w→R e w):Rb.wp Tryz.prog (bodyPost Tryz.prog Tryz.f147 R) ⟨tm,[]⟩ w:=by
 have HR:=ab hR
 have HI:=ab h
 obtain ⟨jq,⟨vf,vo,vm,ve,vr,vg,cm,ce,bd⟩,hk⟩:=h
 obtain ⟨va,vc,Vo⟩:=bZ (bd.bx.own 0 _ rfl)
 simp only at Vo
 have b1:w.cell? ⟨g,1,none⟩=some (.slice va x.fs.length vc):=by
  rw[cell_of_row _ _ _ _ _ _ bd.bx.lA,←Vo]
  rfl
 have c2:w.cell? ⟨p2,0,none⟩=some (.pointer (some ⟨b,0,none⟩)):=by rw[cell_of_row _ _ _ _ _ _ (fh _ _ bd.nx.1).1];rfl
 have c3:w.cell? ⟨p3,0,none⟩=some (.pointer (some ⟨g,0,none⟩)):=by rw[cell_of_row _ _ _ _ _ _ (px _ _ bd.nx.1).1];rfl
 have hlen:x.fs.length≤20000:=by have:=hk.1.1;omega
 have HN:=ab hN
 have Xa:=ab bD
 obtain ⟨L,hL⟩:∃L,x.fs.length=L:=⟨_,rfl⟩
 have HL:=ab hL
 rw[hL] at b1 hlen
 obtain ⟨u,rfl⟩:=B3 ck
 obtain ⟨f2,f3,f4,_⟩:=j7
 replace f2:u 2=.pointer (some ⟨p2,0,none⟩):=zC f2
 replace f3:u 3=.pointer (some ⟨p3,0,none⟩):=zC f3
 replace f4:u 4=.int .i64 (k:Int):=zC f4
 rw[f2,f3,f4]
 clear f2 f3 f4 ck hR bd hN fh px bD hL Vo hk jq
 obtain ⟨Q,hQ⟩:∃Q,bodyPost Tryz.prog Tryz.f147 R=Q:=⟨_,rfl⟩
 rw[hQ]
 unfold Rb DB Bz z8
 dsimp only[Tryz.f147]
 by_cases hz:L=k
 ·have jK:((L:Int)==(k:Int))=true:=by simp[hz]
  have HW:=ab (jn (aa HI).rd)
  have HEq:Hid (nc k x s=.error (bR s)):=by show _=_;unfold nc;rw[if_pos ((aa HL).trans hz)]
  clear hz
  go_wp2_with fail
  refine (aa HW).mono ?_
  rintro e w2 ⟨rfl,br⟩
  rw[←hQ]
  refine ⟨rfl,aa HR _ _ ?_⟩
  rw[aa HEq]
  exact ⟨rfl,(aa HI).er (aD b br)⟩
 ·have jK:((L:Int)==(k:Int))=false:=beq_eq_false_iff_ne.2 (by omega)
  have HC:=ab (dS (aa HI).rd (bN (aa HI).rd.grown (by rw[sD (aa Xa)];decide)))
  have HEq:Hid (nc k x s=match bz s with|.error e=>.error e|.ok (_,s4)=>.ok (x,s4)):=by
   show _=_
   unfold nc
   rw[if_neg (by rw[aa HL];exact hz)]
   all_goals (cases bz s<;>rfl)
  clear hz
  go_wp2_with fail
  refine (aa HC).mono ?_
  intro e w2 hw
  rcases hw.split with ⟨y,hr,rfl,hg⟩|⟨_,s4,hr,rfl,h4,hg⟩
  ·rw[←hQ]
   refine ⟨rfl,aa HR _ _ ?_⟩
   rw[aa HEq,hr]
   exact ⟨rfl,(aa HI).er hg⟩
  ·have HE:Hid (R (.returned (.tuple #[])) w2):=by
    refine aa HR _ _ ?_
    rw[aa HEq,hr]
    exact ⟨rfl,(aa HI).step (aa HN) h4 hg (dW hr).gi⟩
   clear hw hr h4 hg HC HEq
   go_wp2
   rw[←hQ]
   go_end0
   exact aa HE
end
end Go.Proofs.YtjophoclfccmcaaGreatDoor
namespace Go.Proofs.YtjophoclfccmcaaGreatDoor
open Go.RowKit
attribute [local go_sem ↓] Go.wp_at_zero Go.wp_at_succ
theorem mP.imp {lo b g K op:Nat}{nm:ByteArray}{N N':(Nat→Prop)→World→Prop}{V W w:World}{x:Mp}{s:ay} (h:mP lo b g K op nm N V W x s w) (hi:∀P w,N P w→N' P w):mP lo b g K op nm N' V W x s w:=by
 obtain ⟨h0,⟨vf,vo,vm,ve,vr,vg,cm,ce,bd⟩,hk⟩:=h
 exact ⟨h0,⟨vf,vo,vm,ve,vr,vg,cm,ce,bd.imp (fun h=>⟨hi _ _ h.1,h.2⟩)⟩,hk⟩
theorem mP.join {lo b g K op:Nat}{nm:ByteArray}{N M:(Nat→Prop)→World→Prop}{V W w w':World}{x:Mp}{s:ay} (h:mP lo b g K op nm N V W x s w) (hN:aQ N) (hM:aQ M) (hb:Below w.heap.size w w') (h1:M (fun k=>w.heap.size≤k) w'):mP lo b g K op nm (fun P w=>N P w∧M P w) V W x s w':=by
 obtain ⟨h0,⟨vf,vo,vm,ve,vr,vg,cm,ce,bd⟩,hk⟩:=h
 exact ⟨h0,⟨vf,vo,vm,ve,vr,vg,cm,ce,(bd.join (tU.st hN _ _ _) hM (bd.rd.up hb) (aD b hb) h1).imp (fun h=>⟨⟨h.1.1,h.2⟩,h.1.2⟩)⟩,hk⟩
theorem IP.imp {σ:Type}{I J:σ→ay→World→Prop}{Er:World→Prop}{r:Except (Int×Int) (σ×ay)}{e:Ending}{w:World} (h:IP I Er r e w) (hi:∀x s,I x s w→J x s w):IP J Er r e w:=by
 unfold IP at *
 cases r with
 |error y=>exact h
 |ok y=>exact ⟨h.1,hi _ _ h.2⟩
section
variable {lo b g K op p2 p3 : Nat} {nm : ByteArray} {N : (Nat → Prop) → World → Prop} {V W w : World} {x : Mp} {s : ay} {R : Ending → World → Prop}
theorem MY {k:Nat} (h:mP lo b g K op nm N V W x s w) (hN:aQ N) (hK:K≤16384) (fh:∀P w,N P w→aW p2 #[.pointer (some ⟨b,0,none⟩)] 74 P w) (px:∀P w,N P w→aW p3 #[.pointer (some ⟨g,0,none⟩)] 158 P w) {tm:Array Value} (ck:tm.size=41) (j7:Jc tm [(2,.pointer (some ⟨p2,0,none⟩)),(3,.pointer (some ⟨p3,0,none⟩)),(4,.int .i64 (k:Int))])
  (hR:∀e w,IP (mP lo b g K op nm N V W) (Sv g b W) (ks k x s) e w→R e w):DB.wp Tryz.prog (bodyPost Tryz.prog Tryz.f147 R) ⟨tm,[]⟩ w:=by
 obtain ⟨f2,f3,f4,_⟩:=j7
 have k2:=lp f2
 have k3:=lp f3
 have k4:=lp f4
 simp only at k2 k3 k4
 rw[J6]
 refine wp_seq ?_
 obtain ⟨T6,js⟩:∃T,Rb=T:=⟨_,rfl⟩
 rw[js]
 obtain ⟨Qb,ql⟩:∃Q,bodyPost Tryz.prog Tryz.f147 R=Q:=⟨_,rfl⟩
 rw[ql]
 unfold YF DB Bz z8
 dsimp only[Tryz.f147]
 refine iS (z:=4) (N:=41) 2 (by kernel_rfl) (fun k=>k+25) (fun k=>[.pointer (some ⟨b,0,none⟩),.pointer (some ⟨b,0,none⟩),undef,.func (.func 170) #[] #[.pointer (some ⟨p3,0,none⟩),.pointer (some ⟨p2,0,none⟩)]].getD k undef)
  (fun w=>mP lo b g K op nm N V W x s w)
  (fun y w=>∃mb,y=.map (some mb)∧mP lo b g K op nm (fun P w=>N P w∧iJ mb (jT b) P w) V W x s w)
  _ w rfl ck (fun i j _ _ e=>by omega) (fun i hi=>by omega) (by kernel_rfl) (by kernel_rfl) ?_ ?_ ?_ ?_
 ·have hb:=(zE w.heap.size w).drew
  exact h.step hN (h.rd.up hb) (aD b hb) (.refl _)
 ·intro k pY w' hk VD iV cA a8 hw
  have dD:w'.cell? ⟨p2,0,none⟩=some (.pointer (some ⟨b,0,none⟩)):=by
   rcases hw with ⟨_,⟨vf,vo,vm,ve,vr,vg,cm,ce,bd⟩,_⟩|⟨_,mb,_,_,⟨vf,vo,vm,ve,vr,vg,cm,ce,bd⟩,_⟩
   ·rw[cell_of_row _ _ _ _ _ _ (fh _ _ bd.nx.1).1];rfl
   ·rw[cell_of_row _ _ _ _ _ _ (fh _ _ bd.nx.1.1).1];rfl
  match k,hk with
  |0,_=>exact aY rfl rfl _ (.tmp 2) rfl ((cA 2 (by intro i hi;omega)).trans k2) (dh _ dD) ⟨rfl,rfl⟩
  |1,_=>exact aY rfl rfl _ (.tmp 2) rfl ((cA 2 (by intro i hi;omega)).trans k2) (dh _ dD) ⟨rfl,rfl⟩
  |2,_=>omega
  |3,_=>exact nX rfl rfl _ _ _ rfl #[] #[.pointer (some ⟨p3,0,none⟩),.pointer (some ⟨p2,0,none⟩)] (by simp) (by simp only[List.map_toArray,List.map_cons,List.map_nil,Act.eval];rw[show pY.getD 3 undef=_ from (cA 3 (by intro i hi;omega)).trans k3,show pY.getD 2 undef=_ from (cA 2 (by intro i hi;omega)).trans k2]) ⟨rfl,rfl⟩
 ·intro _ pY w' iV cA a8 hw
  refine cF rfl rfl 169 (Es w') _ _ rfl #[.pointer (some ⟨b,0,none⟩)] ?_ (Ej w' b) ?_
  ·simp only[List.map_toArray,List.map_cons,List.map_nil,Act.eval]
   rw[show pY.getD 26 undef=_ from a8 1 (by omega) (by kernel_rfl)]
   rfl
  ·rintro e w2 ⟨rfl,hb,eP⟩
   exact .inl ⟨_,rfl,_,rfl,w'.heap.size,rfl,hw.join hN (fR _ _) hb eP⟩
 ·intro pY w' iV cA dA hw
  rcases hw with ⟨_,mb,hx,hi⟩|⟨hc,_⟩
  rotate_left
  ·omega
  have KJ:aQ (fun P w=>N P w∧iJ mb (jT b) P w):=hN.and (fR _ _)
  have uf:=SE (lo:=lo) (g:=g) (op:=op) (p2:=p2) (p3:=p3) (nm:=nm) (V:=V) (W:=W) KJ hK (fun P w h=>fh P w h.1) (fun P w h=>px P w h.1) (fun P w h=>h.2)
  have KF:=zk uf (fun x s w x' s' hI yG=>xd Cl (fun x s x' s' h=>jP h) (uf.rd x s w hI).grown yG) hi
  refine cF rfl rfl 124 (zg w') _ _ rfl #[.pointer (some ⟨b,0,none⟩),.map (some mb),.func (.func 170) #[] #[.pointer (some ⟨p3,0,none⟩),.pointer (some ⟨p2,0,none⟩)]] ?_ KF ?_
  ·simp only[List.map_toArray,List.map_cons,List.map_nil,Act.eval]
   rw[show pY.getD 25 undef=_ from dA 0 (by omega) (by omega),show pY.getD 27 undef=_ from hx,show pY.getD 28 undef=_ from dA 3 (by omega) (by omega)]
   rfl
  ·intro e w2 RZ
   have TI:∀z,jj (bU rS z7) x s=z→ks k x s=(match z with|.error e=>.error e|.ok (x2,s2)=>nc k x2 s2):=fun z hz=>by unfold ks;rw[hz];cases z<;>rfl
   rcases RZ.split with ⟨y,hr,rfl,he⟩|⟨x3,s3,hr,rfl,ZJ⟩
   ·refine .inr ⟨_,rfl,?_⟩
    show Qb (Exit.panic _) _ _
    rw[←ql]
    refine ⟨rfl,hR _ _ ?_⟩
    rw[TI _ hr]
    exact ⟨rfl,he⟩
   ·refine .inl ⟨_,rfl,?_⟩
    show T6.wp Tryz.prog Qb ⟨pY.setIfInBounds 29 (.tuple #[]),[]⟩ w2
    rw[←js,←ql]
    have bD:=(mq (fun x s x' s' h=>(gX Cl (fun x s x' s' h=>jP h) h).1.gi) hr).2
    refine MX (p2:=p2) (p3:=p3) (k:=k) ZJ KJ (fun P w h=>fh P w h.1) (fun P w h=>px P w h.1) bD (by rw[Array.size_setIfInBounds];exact iV) ⟨?_,?_,?_,trivial⟩ ?_
    ·exact oN (by rw[Array.size_setIfInBounds,iV];omega) (by rw[aK (by omega)];exact (cA 2 (by intro i hi;omega)).trans k2)
    ·exact oN (by rw[Array.size_setIfInBounds,iV];omega) (by rw[aK (by omega)];exact (cA 3 (by intro i hi;omega)).trans k3)
    ·exact oN (by rw[Array.size_setIfInBounds,iV];omega) (by rw[aK (by omega)];exact (cA 4 (by intro i hi;omega)).trans k4)
    ·intro e w3 kz
     refine hR e w3 ?_
     rw[TI _ hr]
     exact kz.imp (fun x s h=>h.imp (fun P w h=>h.1))
theorem MZ {k:Nat} (h:mP lo b g K op nm N V W x s w) (hN:aQ N) (hK:K≤16384) (fh:∀P w,N P w→aW p2 #[.pointer (some ⟨b,0,none⟩)] 74 P w) (px:∀P w,N P w→aW p3 #[.pointer (some ⟨g,0,none⟩)] 158 P w) (hkf:x.fs.length=k) {tm:Array Value} (ck:tm.size=41) (j7:Jc tm [(2,.pointer (some ⟨p2,0,none⟩)),(3,.pointer (some ⟨p3,0,none⟩))])
  (hR:∀e w,IP (mP lo b g K op nm N V W) (Sv g b W) (ks k x s) e w→R e w):Bz.wp Tryz.prog (bodyPost Tryz.prog Tryz.f147 R) ⟨tm,[]⟩ w:=by
 have HI:=ab h
 have HN:=ab hN
 have E6:=ab fh
 have S6:=ab px
 have HR:=ab hR
 have HK:=ab hK
 obtain ⟨jq,⟨vf,vo,vm,ve,vr,vg,cm,ce,bd⟩,hk⟩:=h
 obtain ⟨va,vc,Vo⟩:=bZ (bd.bx.own 0 _ rfl)
 simp only at Vo
 have b1:w.cell? ⟨g,1,none⟩=some (.slice va k vc):=by
  rw[cell_of_row _ _ _ _ _ _ bd.bx.lA,←hkf,←Vo]
  rfl
 have c3:w.cell? ⟨p3,0,none⟩=some (.pointer (some ⟨g,0,none⟩)):=by rw[cell_of_row _ _ _ _ _ _ (px _ _ bd.nx.1).1];rfl
 have hkb:k≤20000:=by have:=hk.1.1;omega
 obtain ⟨u,rfl⟩:=B3 ck
 obtain ⟨f2,f3,_⟩:=j7
 replace f2:u 2=.pointer (some ⟨p2,0,none⟩):=zC f2
 replace f3:u 3=.pointer (some ⟨p3,0,none⟩):=zC f3
 rw[f2,f3,J7]
 clear f2 f3 ck hR bd hN fh px Vo hk jq hkf hK
 obtain ⟨Q,hQ⟩:∃Q,bodyPost Tryz.prog Tryz.f147 R=Q:=⟨_,rfl⟩
 obtain ⟨T5,mH⟩:∃T,DB=T:=⟨_,rfl⟩
 rw[hQ,mH]
 unfold YG Bz z8
 dsimp only[Tryz.f147]
 go_wp2
 rw[←hQ,←mH]
 exact MY (aa HI) (aa HN) (aa HK) (aa E6) (aa S6) rfl ⟨rfl,rfl,rfl,trivial⟩ (aa HR)
theorem M0 (h:mP lo b g K op nm N V W x s w) (hN:aQ N) (hK:K≤16384) (fh:∀P w,N P w→aW p2 #[.pointer (some ⟨b,0,none⟩)] 74 P w) (px:∀P w,N P w→aW p3 #[.pointer (some ⟨g,0,none⟩)] 158 P w) {iP:Array Value} (pn:iP.size=41) (j7:Jc iP [(2,.pointer (some ⟨p2,0,none⟩)),(3,.pointer (some ⟨p3,0,none⟩))])
  (hR:∀e w,IP (mP lo b g K op nm N V W) (Sv g b W) (match aR s with|.error e=>.error e|.ok (a,s2)=>ks x.fs.length { x with os:=x.os++[a] } s2) e w→R e w):z8.wp Tryz.prog (bodyPost Tryz.prog Tryz.f147 R) ⟨iP,[]⟩ w:=by
 obtain ⟨f2,f3,_⟩:=j7
 have k2:=lp f2
 have k3:=lp f3
 simp only at k2 k3
 obtain ⟨jq,⟨vf,vo,vm,ve,vr,vg,cm,ce,bd⟩,hk⟩:=h
 have rB:=hk
 obtain ⟨⟨l1,l2,l3,l4,l5,l6⟩,fJ,hn,jU⟩:=hk
 have hS:=tU.st (g:=g) hN x cm ce
 have hi:(td x vf vo vm ve vr vg cm ce)[1]?=some ⟨9,1,vo,x.os.length,dR x.os⟩:=rfl
 obtain ⟨va,vn,vc,hv⟩:=aU (bd.bx.own 1 _ hi)
 simp only at hv
 obtain ⟨ei,mj,pd,sd,fx⟩:=B8 (sl:=⟨9,1,vo,x.os.length,dR x.os⟩) rfl rfl
 have eP:∀P w,tU g N x cm ce P w→∀c ∈ ([(p3,#[.pointer (some ⟨g,0,none⟩)],158),(p2,#[.pointer (some ⟨b,0,none⟩)],74)]:List (Nat×Array Value×TypeId)),aW c.1 c.2.1 c.2.2 P w:=fun P w hw c hc=>by
  simp only[List.mem_cons,List.not_mem_nil,or_false] at hc
  rcases hc with rfl|rfl
  ·exact px P w hw.1
  ·exact fh P w hw.1
 have cJ:=Ph.base (lo:=lo) (b:=b) (g:=g) (T:=49) (nm:=nm) (V:=V) (W:=W) (s:=s) (r:=aR s) (N1:=fun (a:ByteArray) x _ _=>x=Value.string a) eP hi
 have jt:∀(a:ByteArray) (x:Value),aQ (fun (_:Nat→Prop) (_:World)=>x=Value.string a):=fun _ _=>fun _ _ _ _ _ h=>h
 have hd:=bd.up hS (zE w.heap.size w).drew
 rw[J8]
 refine wp_seq ?_
 obtain ⟨T4,LG⟩:∃T,Bz=T:=⟨_,rfl⟩
 rw[LG]
 obtain ⟨Qb,ql⟩:∃Q,bodyPost Tryz.prog Tryz.f147 R=Q:=⟨_,rfl⟩
 rw[ql]
 unfold YH z8
 dsimp only[Tryz.f147]
 refine du (z:=11) (N:=41) (c:=6) (by kernel_rfl) (fun k=>k+9) (fun k=>[.pointer (some ⟨g,0,none⟩),.pointer (some ⟨g,0,none⟩),.pointer (some ⟨g,0,none⟩),.pointer (some ⟨g,2,none⟩),vo,.pointer (some ⟨b,0,none⟩),undef,undef,undef,.pointer (some ⟨g,0,none⟩),.pointer (some ⟨g,2,none⟩)].getD k undef) (Ph lo b g 49 nm (td x vf vo vm ve vr vg cm ce) (tU g N x cm ce) V W s ⟨9,1,vo,x.os.length,dR x.os⟩ (aR s) (fun a x _ _=>x=Value.string a)) _ w rfl pn (fun i j _ _ e=>by omega) (fun i hi=>by omega) (by kernel_rfl) (by omega) (by kernel_rfl) (by kernel_rfl) (by kernel_rfl) hd ?_ ?_ ?_ ?_ ?_
 ·intro k tm w hk hq ck cA a8 bJ
  obtain ⟨ph,y,bJ⟩:=bJ
  have hB:=cJ ph y w bJ
  match k,hk with
  |0,_=>exact aY rfl rfl _ (.tmp 3) rfl ((cA 3 (by intro i hi;omega)).trans k3) (cT w (hB.cell (List.mem_cons_self ..) rfl)) ⟨rfl,rfl⟩
  |1,_=>exact aY rfl rfl _ (.tmp 3) rfl ((cA 3 (by intro i hi;omega)).trans k3) (cT w (hB.cell (List.mem_cons_self ..) rfl)) ⟨rfl,rfl⟩
  |2,_=>exact bc rfl rfl (.tmp 10) rfl (a8 1 (by omega) (by kernel_rfl)) ⟨rfl,rfl⟩
  |3,_=>exact bV rfl rfl _ (.tmp 11) _ rfl (a8 2 (by omega) (by kernel_rfl)) (B9 w) ⟨rfl,rfl⟩
  |4,_=>exact aY rfl rfl _ (.tmp 12) rfl (a8 3 (by omega) (by kernel_rfl)) (by rw[hv];exact xq w (by rw[←hv];exact hB.row hi)) ⟨rfl,rfl⟩
  |5,_=>exact aY rfl rfl _ (.tmp 2) rfl ((cA 2 (by intro i hi;omega)).trans k2) (dh w (hB.cell (zF _ (List.mem_cons_self ..)) rfl)) ⟨rfl,rfl⟩
  |6,_=>omega
  |7,_=>omega
  |8,_=>omega
  |9,_=>exact bc rfl rfl (.tmp 9) rfl (a8 0 (by omega) (by kernel_rfl)) ⟨rfl,rfl⟩
  |10,_=>exact bV rfl rfl _ (.tmp 18) _ rfl (a8 9 (by omega) (by kernel_rfl)) (B9 w) ⟨rfl,rfl⟩
 ·intro tm w ck cA a8 bJ
  have KI:Ap lo b g 49 nm (td x vf vo vm ve vr vg cm ce) (tU g N x cm ce) V W s w:=bJ
  refine cF rfl rfl 123 (Pr w) _ _ rfl #[.pointer (some ⟨b,0,none⟩)] ?_ ((kW KI.rd fJ).mono fun e w2 h2=>h2.cr) ?_
  ·simp only[List.map_toArray,List.map_cons,List.map_nil,Act.eval]
   rw[show tm.getD 14 undef=_ from a8 5 (by omega) (by kernel_rfl)]
   rfl
  ·intro e w' kz
   rcases Ph.call hS jt bJ kz with ⟨y,rfl,h1⟩|⟨y,hr,rfl,hs⟩
   ·exact .inl ⟨y,rfl,y,rfl,h1⟩
   ·exact .inr ⟨_,rfl,by show Qb (Exit.panic _) _ _;rw[←ql];exact ⟨rfl,hR _ _ (by rw[hr];exact ⟨rfl,hs⟩)⟩⟩
 ·intro tm w y ck hx bJ
  obtain ⟨a,s',hr,iK,KI⟩:=id bJ
  obtain ⟨f1,f2,f3⟩:=fx a y (fun _=>True) w iK
  exact kj rfl rfl _ _ _ rfl #[(0,y)] (by simp only[List.map_toArray,List.map_cons,List.map_nil,Act.eval];rw[show tm.getD 15 undef=y from hx]) (f3 w) ⟨_,rfl,Ph.bs hS jt bJ⟩
 ·intro tm w y ck a8 hy bJ
  obtain ⟨a,s',z,gy,hr,rfl,sN,iK,KI⟩:=id bJ
  obtain ⟨f1,f2,f3⟩:=fx a z (fun _=>True) w iK
  have hl:=KI.bx.lt
  refine cu w rfl rfl (.tmp 13) (.tmp 16) 22 rfl (g+1) 9 1 16 mj ei pd vo x.os.length (dR x.os) (a8 4 (by omega) (by kernel_rfl)) (KI.bx.own 1 _ hi) ⟨gy,0,none⟩ 1 1 z.cells.toList hy (by rw[Array.length_toList,f1]) (ef sN) f2 (by unfold maxLen;omega) (by omega) (by omega) ?_
  intro v' w' h1 h2 h3
  exact ⟨v',rfl,Ph.app hr KI h2 h1 h3⟩
 ·intro tm w y ck cA dA hy bJ
  have hB:=cJ 3 y w bJ
  obtain ⟨a,s',z,w2,hr,h1,h2,h3,h4⟩:=id bJ
  obtain ⟨ya,yn,yc,rfl⟩:=aU h3
  refine eh rfl rfl _ (.tmp 19) (.tmp 17) rfl (dA 10 (by omega) (by omega)) hy (Bo w (hB.row hi) (hB.frozen _)) ?_
  show T4.wp Tryz.prog Qb ⟨tm,[]⟩ _
  rw[←LG,←ql]
  rcases CP.plain xU (Ph.last hS jt hi bJ) with ⟨y',Lz,he,_⟩|⟨a',s2,v2,Lz,_,ig⟩
  ·rw[hr] at Lz;cases Lz
  ·have KC:=gm Lz
   have dB:=KC.lt (kT Lz bd.rd.grown)
   refine MZ (x:={ x with os:=x.os++[a'] }) (s:=s2) (k:=x.fs.length) ⟨jq,⟨vf,v2,vm,ve,vr,vg,cm,ce,ig⟩,⟨⟨by simp only;omega,by simp only[zK,List.length_singleton];omega,by simp only;omega,by simp only;omega,by simp only;omega,by simp only;omega⟩,KC.gi.sm fJ,by omega,KC.gi.op.trans jU⟩⟩ hN hK fh px rfl ck ⟨?_,?_,trivial⟩ ?_
   ·exact oN (by rw[ck];omega) ((cA 2 (by intro i hi;omega)).trans k2)
   ·exact oN (by rw[ck];omega) ((cA 3 (by intro i hi;omega)).trans k3)
   ·intro e w3 RZ
    refine hR e w3 ?_
    rw[Lz]
    exact RZ
end
end Go.Proofs.YtjophoclfccmcaaGreatDoor
namespace Go.Proofs.YtjophoclfccmcaaGreatDoor
open Go.RowKit
attribute [local go_sem ↓] Go.wp_at_zero Go.wp_at_succ
section
variable {lo b g K op : Nat} {nm : ByteArray} {N : (Nat → Prop) → World → Prop} {V W w0 : World} {x : Mp} {s : ay}
theorem J5 (h:mP lo b g K op nm N V W x s w0) (hN:aQ N) (hK:K≤16384) (hp:0<s.ts.length):Calls Tryz.prog 147 #[.pointer (some ⟨b,0,none⟩),.pointer (some ⟨g,0,none⟩)] w0 (IP (mP lo b g K op nm N V W) (Sv g b W) (fH x s)):=by
 have br:Below w0.heap.size w0 ((w0.alloc (.cells #[.pointer (some ⟨b,0,none⟩)] 74)).alloc (.cells #[.pointer (some ⟨g,0,none⟩)] 158)):=((zE _ _).alloc (zD _) _).alloc (by rw[zJ];omega) _
 have jo:((w0.alloc (.cells #[.pointer (some ⟨b,0,none⟩)] 74)).alloc (.cells #[.pointer (some ⟨g,0,none⟩)] 158)).heap[w0.heap.size]?=some (.cells #[.pointer (some ⟨b,0,none⟩)] 74 (0,0)):=(Below.heap_alloc _ _ _ (by rw[zJ];omega)).trans (aH _ _)
 have eL:((w0.alloc (.cells #[.pointer (some ⟨b,0,none⟩)] 74)).alloc (.cells #[.pointer (some ⟨g,0,none⟩)] 158)).heap[w0.heap.size+1]?=some (.cells #[.pointer (some ⟨g,0,none⟩)] 158 (0,0)):=by
  have:=aH (w0.alloc (.cells #[.pointer (some ⟨b,0,none⟩)] 74)) (.cells #[.pointer (some ⟨g,0,none⟩)] 158)
  rw[zJ] at this
  exact this
 have hS:aQ (fun P w=>aW w0.heap.size #[.pointer (some ⟨b,0,none⟩)] 74 P w∧aW (w0.heap.size+1) #[.pointer (some ⟨g,0,none⟩)] 158 P w):=(bp _ _ _).and (bp _ _ _)
 have hj:=h.join hN hS br ⟨⟨jo,zD _⟩,⟨eL,by omega⟩⟩
 have HS:=ab (hN.and hS)
 have HI:=ab hj
 have c0:((w0.alloc (.cells #[.pointer (some ⟨b,0,none⟩)] 74)).alloc (.cells #[.pointer (some ⟨g,0,none⟩)] 158)).cell? ⟨w0.heap.size,0,none⟩=some (.pointer (some ⟨b,0,none⟩)):=by rw[cell_of_row _ _ _ _ _ _ jo];rfl
 have iL:∀s' w',mP lo b g K op nm (fun P w=>N P w∧(aW w0.heap.size #[.pointer (some ⟨b,0,none⟩)] 74 P w∧aW (w0.heap.size+1) #[.pointer (some ⟨g,0,none⟩)] 158 P w)) V W x s' w'→w'.cell? ⟨w0.heap.size,0,none⟩=some (.pointer (some ⟨b,0,none⟩)):=by
  rintro s' w' ⟨_,⟨vf,vo,vm,ve,vr,vg,cm,ce,bd⟩,_⟩
  rw[cell_of_row _ _ _ _ _ _ bd.nx.1.2.1.1];rfl
 have HCl:=ab iL
 have HC:=ab (fF hj.rd)
 have HK:=ab hK
 clear h hN hS br jo eL hj iL hK
 refine calls_of_wp Tryz.func147 MS ?_
 obtain ⟨tl,pL⟩:∃t,z8=t:=⟨_,rfl⟩
 rw[pL]
 obtain ⟨Q,hQ⟩:∃Q,bodyPost Tryz.prog Tryz.f147 (IP (mP lo b g K op nm N V W) (Sv g b W) (fH x s))=Q:=⟨_,rfl⟩
 rw[hQ]
 unfold MW
 dsimp only[Tryz.f147]
 simp only[List.size_toArray,List.length_cons,List.length_nil,Nat.reduceAdd,Nat.reduceSub,Array.replicate_succ,Array.replicate_zero,List.push_toArray,List.append_toArray,List.nil_append,List.cons_append]
 go_wp2_with fail
 refine (aa HC).mono ?_
 rintro e w1 ⟨rfl,h1,l8⟩
 have Jp:=ab ((aa HI).step (s':=s.begun) (aa HS) h1 l8 ⟨0,rfl,rfl,rfl⟩)
 have c1:=aa HCl _ _ (aa Jp)
 have HN:=ab (dS h1 hp)
 clear h1 l8 HC c0 HI
 go_wp2_with fail
 refine (aa HN).mono ?_
 intro e w2 hw
 rcases hw.split with ⟨y,hr,rfl,hg⟩|⟨_,s1,hr,rfl,h2,hg⟩
 ·show Q (Exit.panic _) _ _
  rw[←hQ]
  refine ⟨rfl,?_⟩
  unfold fH
  rw[hr]
  exact ⟨rfl,(aa Jp).er hg⟩
 ·have LP:=ab ((aa Jp).step (aa HS) h2 hg (dW hr).gi)
  have HF:Hid (fH x s=match aR s1 with|.error e=>.error e|.ok (a,s2)=>ks x.fs.length { x with os:=x.os++[a] } s2):=by
   show _=_
   unfold fH
   rw[hr]
   simp only
   all_goals (cases aR s1<;>rfl)
  clear hw hr h2 hg HN Jp c1
  go_wp2
  rw[←pL,←hQ]
  refine M0 (p2:=w0.heap.size) (p3:=w0.heap.size+1) (aa LP) (aa HS) (aa HK) (fun P w h=>h.2.1) (fun P w h=>h.2.2) rfl ⟨rfl,rfl,trivial⟩ ?_
  intro e w3 RZ
  rw[aa HF]
  exact RZ.imp (fun x s h=>h.imp (fun P w h=>h.1))
theorem Nw {pm pr:Nat} (h:mP lo b g K op nm N V W x s w0) (hN:aQ N) (hK:K≤16384) (pN:∀P w,N P w→aW pr #[.pointer (some ⟨b,0,none⟩)] 74 P w) (fh:∀P w,N P w→aW pm #[.pointer (some ⟨g,0,none⟩)] 158 P w) (hp:0<s.ts.length):Calls Tryz.prog 146 #[.pointer (some ⟨pr,0,none⟩),.pointer (some ⟨pm,0,none⟩)] w0 (IP (mP lo b g K op nm N V W) (Sv g b W) (fH x s)):=by
 have HC:=ab (J5 h hN hK hp)
 obtain ⟨_,⟨vf,vo,vm,ve,vr,vg,cm,ce,bd⟩,_⟩:=h
 have c1:w0.cell? ⟨pr,0,none⟩=some (.pointer (some ⟨b,0,none⟩)):=by rw[cell_of_row _ _ _ _ _ _ (pN _ _ bd.nx.1).1];rfl
 have c2:w0.cell? ⟨pm,0,none⟩=some (.pointer (some ⟨g,0,none⟩)):=by rw[cell_of_row _ _ _ _ _ _ (fh _ _ bd.nx.1).1];rfl
 clear bd hN pN fh
 go_enter Tryz.func146,Tryz.ntmps146
 go_wp2_with fail
 refine (aa HC).mono ?_
 intro e w1 hw
 have HW:=ab hw
 rcases hw.split with ⟨y,hr,rfl,he⟩|⟨x',s',hr,rfl,hi⟩
 ·exact ⟨rfl,aa HW⟩
 ·clear hr hi hw HC c1 c2
  go_wp2
  go_end0
  exact aa HW
end
theorem UW {lo b g K op p1 pv:Nat}{nm:ByteArray}{N:(Nat→Prop)→World→Prop}{V W:World}{mf:ay→Except (Int×Int) (Ms×ay)} (hN:aQ N) (hK:K≤16384) (pN:∀P w,N P w→aW p1 #[.pointer (some ⟨b,0,none⟩)] 74 P w) (fh:∀P w,N P w→aW pv #[.pointer (some ⟨b,0,none⟩)] 74 P w) (px:∀P w,N P w→aW (pv+1) #[.pointer (some ⟨g,0,none⟩)] 158 P w) (hm:∀P w,N P w→iJ (pv+2) (jH pv b) P w)
  (KC:∀s m s',mf s=.ok (m,s')→Gt s s') (IC:∀lo b V W s,Env V W b→Rd lo W b s→Sm s→s.ts.length≤K→0<s.ts.length→Calls Tryz.prog 103 #[.pointer (some ⟨b,0,none⟩)] W (CR lo b NM W (mf s))) :
  EE (mP lo b g K op nm N V W) (Sv g b W) lo b (pv+2) (jH pv b) (.func (.func 126) #[] #[.pointer (some ⟨g,0,none⟩),.pointer (some ⟨p1,0,none⟩)]) (mz mf) ER:=by
 refine ⟨fun x s w h=>h.rd,fun x s w s' w' h hr hg hs=>h.step hN hr hg hs,fun x s w w' h hg=>h.er hg,fun x s w h=>?_,fun k=>?_,fun k v f hv hf x s w h hk ht=>?_,fun x s w h=>?_⟩
 ·obtain ⟨_,⟨vf,vo,vm,ve,vr,vg,cm,ce,bd⟩,_⟩:=h
  exact ⟨_,hm _ _ bd.nx.1⟩
 ·unfold jH mz
  simp only[jQ]
  by_cases q0:(k==⟨#[109,101,115,115,97,103,101]⟩)=true
  ·exact .inr ⟨_,_,_,_,by rw[if_pos q0],by rw[if_pos q0]⟩
  rw[if_neg q0,if_neg q0]
  by_cases q1:(k==⟨#[101,110,117,109]⟩)=true
  ·exact .inr ⟨_,_,_,_,by rw[if_pos q1],by rw[if_pos q1]⟩
  rw[if_neg q1,if_neg q1]
  by_cases q2:(k==⟨#[111,110,101,111,102]⟩)=true
  ·exact .inr ⟨_,_,_,_,by rw[if_pos q2],by rw[if_pos q2]⟩
  rw[if_neg q2,if_neg q2]
  by_cases q3:(k==⟨#[114,101,115,101,114,118,101,100]⟩)=true
  ·exact .inr ⟨_,_,_,_,by rw[if_pos q3],by rw[if_pos q3]⟩
  rw[if_neg q3,if_neg q3]
  by_cases q4:(k==⟨#[111,112,116,105,111,110,97,108]⟩)=true
  ·exact .inr ⟨_,_,_,_,by rw[if_pos q4],by rw[if_pos q4]⟩
  rw[if_neg q4,if_neg q4]
  by_cases q5:(k==⟨#[114,101,112,101,97,116,101,100]⟩)=true
  ·exact .inr ⟨_,_,_,_,by rw[if_pos q5],by rw[if_pos q5]⟩
  rw[if_neg q5,if_neg q5]
  by_cases q6:(k==⟨#[109,97,112]⟩)=true
  ·exact .inr ⟨_,_,_,_,by rw[if_pos q6],by rw[if_pos q6]⟩
  rw[if_neg q6,if_neg q6]
  by_cases q7:(k==⟨#[111,112,116,105,111,110]⟩)=true
  ·exact .inr ⟨_,_,_,_,by rw[if_pos q7],by rw[if_pos q7]⟩
  rw[if_neg q7,if_neg q7]
  by_cases q8:(k==⟨#[101,120,116,101,110,100]⟩)=true
  ·exact .inr ⟨_,_,_,_,by rw[if_pos q8],by rw[if_pos q8]⟩
  rw[if_neg q8,if_neg q8]
  by_cases q9:(k==⟨#[101,120,116,101,110,115,105,111,110,115]⟩)=true
  ·exact .inr ⟨_,_,_,_,by rw[if_pos q9],by rw[if_pos q9]⟩
  rw[if_neg q9,if_neg q9]
  by_cases EO:(k==⟨#[103,114,111,117,112]⟩)=true
  ·exact .inr ⟨_,_,_,_,by rw[if_pos EO],by rw[if_pos EO]⟩
  rw[if_neg EO,if_neg EO]
  by_cases Qh:(k==⟨#[114,101,113,117,105,114,101,100]⟩)=true
  ·exact .inr ⟨_,_,_,_,by rw[if_pos Qh],by rw[if_pos Qh]⟩
  rw[if_neg Qh,if_neg Qh]
  exact .inl ⟨rfl,rfl⟩
 ·unfold jH at hv
  unfold mz at hf
  simp only[jQ] at hv
  by_cases q0:(k==⟨#[109,101,115,115,97,103,101]⟩)=true
  ·rw[if_pos q0] at hv hf
   obtain rfl:=zC hv
   obtain rfl:=zC hf
   obtain ⟨jq,⟨vf,vo,vm,ve,vr,vg,cm,ce,bd⟩,rB⟩:=h
   have IE:=rB
   obtain ⟨⟨l1,l2,l3,l4,l5,l6⟩,fJ,hn,jU⟩:=IE
   have dL:=bN bd.rd.grown (by rw[hk];decide)
   refine ⟨_,_,_,rfl,Au w,?_⟩
   refine (Ww (pm:=pv+1) (pr:=pv) (r:=mf s) (sl:=⟨49,7,vm,x.ms.length,cm⟩) bd (tU.st hN _ _ _) rfl (D9 g rfl rfl) (by simp only;omega) (fun P w hw c hc=>by
    simp only[List.mem_cons,List.not_mem_nil,or_false] at hc
    rcases hc with rfl|rfl
    ·exact px P w hw.1
    ·exact fh P w hw.1) (fun w' s2 M _ l7 e=>by
    subst e
    exact (IC lo b V w' s2 l7.ev l7.rd fJ (by omega) dL).mono fun e w3 h3=>h3.YO (by have:=l7.bx.lt;omega))).mono ?_
   intro e w' hw
   exact UY jq rB dL (fun d s' hr=>KC _ _ _ hr) hw
  rw[if_neg q0] at hv hf
  by_cases q1:(k==⟨#[101,110,117,109]⟩)=true
  ·rw[if_pos q1] at hv hf
   obtain rfl:=zC hv
   obtain rfl:=zC hf
   obtain ⟨jq,⟨vf,vo,vm,ve,vr,vg,cm,ce,bd⟩,rB⟩:=h
   have IE:=rB
   obtain ⟨⟨l1,l2,l3,l4,l5,l6⟩,fJ,hn,jU⟩:=IE
   have dL:=bN bd.rd.grown (by rw[hk];decide)
   refine ⟨_,_,_,rfl,At w,?_⟩
   refine (Nx (pm:=pv+1) (pr:=pv) (bt:=88) (r:=db s) (sl:=⟨71,4,ve,x.es.length,ce⟩) (N1:=WC g) bd (tU.st hN _ _ _) (xY g) rfl (AY g rfl rfl) (by simp only;omega) (fun P w hw c hc=>by
    simp only[List.mem_cons,List.not_mem_nil,or_false] at hc
    rcases hc with rfl|rfl
    ·exact px P w hw.1
    ·exact fh P w hw.1) (fun w' l7=>(Ec l7.ev l7.rd fJ (by omega) dL).mono fun e w3 h3=>h3.TS (by have:=l7.bx.lt;omega))).mono ?_
   intro e w' hw
   exact Rt jq rB dL (fun d s' hr=>rF hr) hw
  rw[if_neg q1] at hv hf
  by_cases q2:(k==⟨#[111,110,101,111,102]⟩)=true
  ·rw[if_pos q2] at hv hf
   obtain rfl:=zC hv
   obtain rfl:=zC hf
   exact ⟨_,_,_,rfl,Ar w,Nw h hN hK fh px (bN h.rd.grown (by rw[hk];decide))⟩
  rw[if_neg q2] at hv hf
  by_cases q3:(k==⟨#[114,101,115,101,114,118,101,100]⟩)=true
  ·rw[if_pos q3] at hv hf
   obtain rfl:=zC hv
   obtain rfl:=zC hf
   obtain ⟨jq,⟨vf,vo,vm,ve,vr,vg,cm,ce,bd⟩,rB⟩:=h
   have IE:=rB
   obtain ⟨⟨l1,l2,l3,l4,l5,l6⟩,fJ,hn,jU⟩:=IE
   have dL:=bN bd.rd.grown (by rw[hk];decide)
   refine ⟨_,_,_,rfl,Aq w,?_⟩
   refine (Nv (pm:=pv+1) (pr:=pv) (rs:=x.rs) (gs:=x.gs) (vr:=vr) (vg:=vg) bd (tU.st hN _ _ _) rfl rfl dL fJ l5 l6 (fun P w h=>fh P w h.1) (fun P w h=>px P w h.1)).mono ?_
   intro e w' hw
   exact UX jq rB hw
  rw[if_neg q3] at hv hf
  by_cases q4:(k==⟨#[111,112,116,105,111,110,97,108]⟩)=true
  ·rw[if_pos q4] at hv hf
   obtain rfl:=zC hv
   obtain rfl:=zC hf
   obtain ⟨jq,⟨vf,vo,vm,ve,vr,vg,cm,ce,bd⟩,rB⟩:=h
   have IE:=rB
   obtain ⟨⟨l1,l2,l3,l4,l5,l6⟩,fJ,hn,jU⟩:=IE
   have dL:=bN bd.rd.grown (by rw[hk];decide)
   refine ⟨_,_,_,rfl,Ao w,?_⟩
   refine (Nu (pm:=pv+1) (pr:=pv) (bt:=72) (r:=cU 2 s) (sl:=⟨45,6,vf,x.fs.length,mI x.fs⟩) (N1:=fun a x _ _=>x=a.val) bd (tU.st hN _ _ _) (fun _ _=>fun _ _ _ _ _ h=>h) rfl (rI rfl rfl) (by simp only;omega) (fun P w hw c hc=>by
    simp only[List.mem_cons,List.not_mem_nil,or_false] at hc
    rcases hc with rfl|rfl
    ·exact px P w hw.1
    ·exact fh P w hw.1) (fun w' l7=>(rm 2 l7.ev l7.rd fJ (by omega) dL).mono fun e w2 h2=>h2.cr)).mono ?_
   intro e w' hw
   exact yv jq rB (.inl dL) (fun d s' hr=>lI hr) hw
  rw[if_neg q4] at hv hf
  by_cases q5:(k==⟨#[114,101,112,101,97,116,101,100]⟩)=true
  ·rw[if_pos q5] at hv hf
   obtain rfl:=zC hv
   obtain rfl:=zC hf
   obtain ⟨jq,⟨vf,vo,vm,ve,vr,vg,cm,ce,bd⟩,rB⟩:=h
   have IE:=rB
   obtain ⟨⟨l1,l2,l3,l4,l5,l6⟩,fJ,hn,jU⟩:=IE
   have dL:=bN bd.rd.grown (by rw[hk];decide)
   refine ⟨_,_,_,rfl,Am w,?_⟩
   refine (Nt (pm:=pv+1) (pr:=pv) (bt:=72) (r:=cU 3 s) (sl:=⟨45,6,vf,x.fs.length,mI x.fs⟩) (N1:=fun a x _ _=>x=a.val) bd (tU.st hN _ _ _) (fun _ _=>fun _ _ _ _ _ h=>h) rfl (rI rfl rfl) (by simp only;omega) (fun P w hw c hc=>by
    simp only[List.mem_cons,List.not_mem_nil,or_false] at hc
    rcases hc with rfl|rfl
    ·exact px P w hw.1
    ·exact fh P w hw.1) (fun w' l7=>(rm 3 l7.ev l7.rd fJ (by omega) dL).mono fun e w2 h2=>h2.cr)).mono ?_
   intro e w' hw
   exact yv jq rB (.inl dL) (fun d s' hr=>lI hr) hw
  rw[if_neg q5] at hv hf
  by_cases q6:(k==⟨#[109,97,112]⟩)=true
  ·rw[if_pos q6] at hv hf
   obtain rfl:=zC hv
   obtain rfl:=zC hf
   obtain ⟨jq,⟨vf,vo,vm,ve,vr,vg,cm,ce,bd⟩,rB⟩:=h
   have IE:=rB
   obtain ⟨⟨l1,l2,l3,l4,l5,l6⟩,fJ,hn,jU⟩:=IE
   have dL:=bN bd.rd.grown (by rw[hk];decide)
   refine ⟨_,_,_,rfl,Al w,?_⟩
   refine (Ns (pm:=pv+1) (pr:=pv) (bt:=72) (r:=de s) (sl:=⟨45,6,vf,x.fs.length,mI x.fs⟩) (N1:=fun a x _ _=>x=a.val) bd (tU.st hN _ _ _) (fun _ _=>fun _ _ _ _ _ h=>h) rfl (rI rfl rfl) (by simp only;omega) (fun P w hw c hc=>by
    simp only[List.mem_cons,List.not_mem_nil,or_false] at hc
    rcases hc with rfl|rfl
    ·exact px P w hw.1
    ·exact fh P w hw.1) (fun w' l7=>(yz l7.ev l7.rd fJ (by omega) dL).mono fun e w2 h2=>h2.cr)).mono ?_
   intro e w' hw
   exact yv jq rB (.inl dL) (fun d s' hr=>OB hr) hw
  rw[if_neg q6] at hv hf
  by_cases q7:(k==⟨#[111,112,116,105,111,110]⟩)=true
  ·rw[if_pos q7] at hv hf
   obtain rfl:=zC hv
   obtain rfl:=zC hf
   exact dH h.rd (fun w' hg=>h.er hg)
  rw[if_neg q7] at hv hf
  by_cases q8:(k==⟨#[101,120,116,101,110,100]⟩)=true
  ·rw[if_pos q8] at hv hf
   obtain rfl:=zC hv
   obtain rfl:=zC hf
   exact dH h.rd (fun w' hg=>h.er hg)
  rw[if_neg q8] at hv hf
  by_cases q9:(k==⟨#[101,120,116,101,110,115,105,111,110,115]⟩)=true
  ·rw[if_pos q9] at hv hf
   obtain rfl:=zC hv
   obtain rfl:=zC hf
   exact dH h.rd (fun w' hg=>h.er hg)
  rw[if_neg q9] at hv hf
  by_cases EO:(k==⟨#[103,114,111,117,112]⟩)=true
  ·rw[if_pos EO] at hv hf
   obtain rfl:=zC hv
   obtain rfl:=zC hf
   exact dH h.rd (fun w' hg=>h.er hg)
  rw[if_neg EO] at hv hf
  by_cases Qh:(k==⟨#[114,101,113,117,105,114,101,100]⟩)=true
  ·rw[if_pos Qh] at hv hf
   obtain rfl:=zC hv
   obtain rfl:=zC hf
   exact dH h.rd (fun w' hg=>h.er hg)
  rw[if_neg Qh] at hv hf
  cases hv
 ·obtain ⟨jq,⟨vf,vo,vm,ve,vr,vg,cm,ce,bd⟩,hk⟩:=h
  have rB:=hk
  obtain ⟨⟨l1,l2,l3,l4,l5,l6⟩,fJ,hn,jU⟩:=hk
  refine ⟨_,_,_,rfl,Ak w,?_⟩
  refine (M' (pr:=p1) (bt:=72) (r:=cq 0 s) (sl:=⟨45,6,vf,x.fs.length,mI x.fs⟩) (N1:=fun a x _ _=>x=a.val) bd (tU.st hN _ _ _) (fun _ _=>fun _ _ _ _ _ h=>h) rfl (rI rfl rfl) (by simp only;omega) (fun P w hw c hc=>?_) (fun w' l7=>(sC 0 l7.ev l7.rd fJ (by omega)).mono fun e w2 h2=>h2.cr)).mono ?_
  ·simp only[List.mem_cons,List.not_mem_nil,or_false] at hc
   subst hc
   exact pN P w hw.1
  ·intro e w' hw
   exact yv jq rB (.inr (fun d s' hr=>(jN hr).2 bd.rd.grown)) (fun d s' hr=>(jN hr).1) hw
end Go.Proofs.YtjophoclfccmcaaGreatDoor

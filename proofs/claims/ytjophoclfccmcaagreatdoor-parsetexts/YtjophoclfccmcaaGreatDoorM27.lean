import Derived.Test.YtjophoclfccmcaaGreatDoorPbT
set_option maxHeartbeats 4000000
set_option maxRecDepth 100000
namespace Go.Proofs.YtjophoclfccmcaaGreatDoor
open Go.RowKit
attribute [local go_sem ↓] Go.wp_at_zero Go.wp_at_succ
theorem Sx {lo b g K op p2 p3 mb:Nat}{nm:ByteArray}{N:(Nat→Prop)→World→Prop}{V W:World} (hN:aP N) (hK:K≤16384) (fB:∀P w,N P w→aX p2 #[.pointer (some ⟨b,0,none⟩)] 74 P w) (pc:∀P w,N P w→aX p3 #[.pointer (some ⟨g,0,none⟩)] 158 P w) (hm:∀P w,N P w→iH mb (jW b) P w) :
  EL (mL lo b g K op nm N V W) (Sv g b W) lo b mb (jW b) (.func (.func 170) #[] #[.pointer (some ⟨p3,0,none⟩),.pointer (some ⟨p2,0,none⟩)]) rK z8:=by
 refine ⟨fun x s w h=>h.rd,fun x s w s' w' h hr hg hs=>h.step hN hr hg hs,fun x s w w' h hg=>h.er hg,fun x s w h=>?_,fun k=>?_,fun k v f hv hf x s w h hk ht=>?_,fun x s w h=>?_⟩
 ·obtain ⟨_,⟨vf,vo,vm,ve,vr,vg,cm,ce,bd⟩,_⟩:=h
  exact ⟨_,hm _ _ bd.nx.1⟩
 ·unfold jW rK
  simp only[jT]
  by_cases q0:(k==⟨#[111,112,116,105,111,110]⟩)=true
  ·exact .inr ⟨_,_,_,_,by rw[if_pos q0],by rw[if_pos q0]⟩
  rw[if_neg q0,if_neg q0]
  by_cases q1:(k==⟨#[103,114,111,117,112]⟩)=true
  ·exact .inr ⟨_,_,_,_,by rw[if_pos q1],by rw[if_pos q1]⟩
  rw[if_neg q1,if_neg q1]
  by_cases q2:(k==⟨#[111,112,116,105,111,110,97,108]⟩)=true
  ·exact .inr ⟨_,_,_,_,by rw[if_pos q2],by rw[if_pos q2]⟩
  rw[if_neg q2,if_neg q2]
  by_cases q3:(k==⟨#[114,101,112,101,97,116,101,100]⟩)=true
  ·exact .inr ⟨_,_,_,_,by rw[if_pos q3],by rw[if_pos q3]⟩
  rw[if_neg q3,if_neg q3]
  by_cases q4:(k==⟨#[114,101,113,117,105,114,101,100]⟩)=true
  ·exact .inr ⟨_,_,_,_,by rw[if_pos q4],by rw[if_pos q4]⟩
  rw[if_neg q4,if_neg q4]
  by_cases q5:(k==⟨#[111,110,101,111,102]⟩)=true
  ·exact .inr ⟨_,_,_,_,by rw[if_pos q5],by rw[if_pos q5]⟩
  rw[if_neg q5,if_neg q5]
  by_cases q6:(k==⟨#[109,101,115,115,97,103,101]⟩)=true
  ·exact .inr ⟨_,_,_,_,by rw[if_pos q6],by rw[if_pos q6]⟩
  rw[if_neg q6,if_neg q6]
  by_cases q7:(k==⟨#[101,110,117,109]⟩)=true
  ·exact .inr ⟨_,_,_,_,by rw[if_pos q7],by rw[if_pos q7]⟩
  rw[if_neg q7,if_neg q7]
  by_cases q8:(k==⟨#[114,101,115,101,114,118,101,100]⟩)=true
  ·exact .inr ⟨_,_,_,_,by rw[if_pos q8],by rw[if_pos q8]⟩
  rw[if_neg q8,if_neg q8]
  exact .inl ⟨rfl,rfl⟩
 ·unfold jW at hv
  unfold rK at hf
  simp only[jT] at hv
  by_cases q0:(k==⟨#[111,112,116,105,111,110]⟩)=true
  ·rw[if_pos q0] at hv hf
   obtain rfl:=zC hv
   obtain rfl:=zC hf
   exact dI h.rd (fun w' hg=>h.er hg)
  rw[if_neg q0] at hv hf
  by_cases q1:(k==⟨#[103,114,111,117,112]⟩)=true
  ·rw[if_pos q1] at hv hf
   obtain rfl:=zC hv
   obtain rfl:=zC hf
   exact dI h.rd (fun w' hg=>h.er hg)
  rw[if_neg q1] at hv hf
  by_cases q2:(k==⟨#[111,112,116,105,111,110,97,108]⟩)=true
  ·rw[if_pos q2] at hv hf
   obtain rfl:=zC hv
   obtain rfl:=zC hf
   exact dI h.rd (fun w' hg=>h.er hg)
  rw[if_neg q2] at hv hf
  by_cases q3:(k==⟨#[114,101,112,101,97,116,101,100]⟩)=true
  ·rw[if_pos q3] at hv hf
   obtain rfl:=zC hv
   obtain rfl:=zC hf
   exact dI h.rd (fun w' hg=>h.er hg)
  rw[if_neg q3] at hv hf
  by_cases q4:(k==⟨#[114,101,113,117,105,114,101,100]⟩)=true
  ·rw[if_pos q4] at hv hf
   obtain rfl:=zC hv
   obtain rfl:=zC hf
   exact dI h.rd (fun w' hg=>h.er hg)
  rw[if_neg q4] at hv hf
  by_cases q5:(k==⟨#[111,110,101,111,102]⟩)=true
  ·rw[if_pos q5] at hv hf
   obtain rfl:=zC hv
   obtain rfl:=zC hf
   exact dI h.rd (fun w' hg=>h.er hg)
  rw[if_neg q5] at hv hf
  by_cases q6:(k==⟨#[109,101,115,115,97,103,101]⟩)=true
  ·rw[if_pos q6] at hv hf
   obtain rfl:=zC hv
   obtain rfl:=zC hf
   exact dI h.rd (fun w' hg=>h.er hg)
  rw[if_neg q6] at hv hf
  by_cases q7:(k==⟨#[101,110,117,109]⟩)=true
  ·rw[if_pos q7] at hv hf
   obtain rfl:=zC hv
   obtain rfl:=zC hf
   exact dI h.rd (fun w' hg=>h.er hg)
  rw[if_neg q7] at hv hf
  by_cases q8:(k==⟨#[114,101,115,101,114,118,101,100]⟩)=true
  ·rw[if_pos q8] at hv hf
   obtain rfl:=zC hv
   obtain rfl:=zC hf
   exact dI h.rd (fun w' hg=>h.er hg)
  rw[if_neg q8] at hv hf
  cases hv
 ·obtain ⟨jo,⟨vf,vo,vm,ve,vr,vg,cm,ce,bd⟩,hk⟩:=h
  have xw:=hk
  obtain ⟨⟨l1,l2,l3,l4,l5,l6⟩,fP,hn,jX⟩:=hk
  refine ⟨_,_,_,rfl,Ey w,?_⟩
  refine (FQ (pm:=p3) (pr:=p2) (bt:=72) (r:=cu (x.os.length:Int) s) (sl:=⟨45,6,vf,x.fs.length,mF x.fs⟩) (so:=⟨9,1,vo,x.os.length,dV x.os⟩) (N1:=fun a x _ _=>x=a.val) rfl bd (tQ.st hN _ _ _) (fun _ _=>fun _ _ _ _ _ h=>h) rfl (rA rfl rfl) (by simp only;omega) (fun P w hw c hc=>?_) (fun w' lX=>(sw (x.os.length:Int) lX.ev lX.rd fP (by omega)).mono fun e w2 h2=>h2.cr)).mono ?_
  ·simp only[List.mem_cons,List.not_mem_nil,or_false] at hc
   rcases hc with rfl|rfl
   ·exact pc P w hw.1
   ·exact fB P w hw.1
  ·intro e w' hw
   exact yz jo xw (.inr (fun d s' hr=>(jQ hr).2 bd.rd.grown)) (fun d s' hr=>(jQ hr).1) hw
noncomputable def z':Code:=match Tryz.f147.body with
 |some (.seq _ (.seq _ (.seq _ t)))=>t
 |_=>.skip
noncomputable def MP (t:Code):Code:=match Tryz.f147.body with
 |some (.seq a (.seq b (.seq c _)))=>.seq a (.seq b (.seq c t))
 |_=>.skip
theorem MM:Tryz.f147.body=some (MP z'):=rfl
noncomputable def Yr:Code:=match z' with
 |.seq a _=>a
 |_=>.skip
noncomputable def BI:Code:=match z' with
 |.seq _ t=>t
 |_=>.skip
theorem Ka:z'=.seq Yr BI:=rfl
noncomputable def Yq:Code:=match BI with
 |.seq a _=>a
 |_=>.skip
noncomputable def DI:Code:=match BI with
 |.seq _ t=>t
 |_=>.skip
theorem J':BI=.seq Yq DI:=rfl
noncomputable def Yp:Code:=match DI with
 |.seq a _=>a
 |_=>.skip
noncomputable def QU:Code:=match DI with
 |.seq _ t=>t
 |_=>.skip
theorem J9:DI=.seq Yp QU:=rfl
section
variable {lo b g K op p2 p3 : Nat} {nm : ByteArray} {N : (Nat → Prop) → World → Prop} {V W w : World} {x : Mp} {s : ax} {R : Ending → World → Prop}
theorem MQ {k:Nat} (h:mL lo b g K op nm N V W x s w) (hN:aP N) (fB:∀P w,N P w→aX p2 #[.pointer (some ⟨b,0,none⟩)] 74 P w) (pc:∀P w,N P w→aX p3 #[.pointer (some ⟨g,0,none⟩)] 158 P w) (bF:aH s.here 4 ⟨#[125]⟩=true) {tm:Array Value} (cl:tm.size=41) (j7:Jg tm [(2,.pointer (some ⟨p2,0,none⟩)),(3,.pointer (some ⟨p3,0,none⟩)),(4,.int .i64 (k:Int))])
  (hR:∀e w,IP (mL lo b g K op nm N V W) (Sv g b W) (mX k x s) e w→R e w):QU.wp Tryz.prog (bodyPost Tryz.prog Tryz.f147 R) ⟨tm,[]⟩ w:=by
 have HR:=ab hR
 have HI:=ab h
 obtain ⟨jo,⟨vf,vo,vm,ve,vr,vg,cm,ce,bd⟩,hk⟩:=h
 obtain ⟨va,vc,Vc⟩:=bZ (bd.bx.own 0 _ rfl)
 simp only at Vc
 have b1:w.cell? ⟨g,1,none⟩=some (.slice va x.fs.length vc):=by
  rw[cell_of_row _ _ _ _ _ _ bd.bx.lz,←Vc]
  rfl
 have c2:w.cell? ⟨p2,0,none⟩=some (.pointer (some ⟨b,0,none⟩)):=by rw[cell_of_row _ _ _ _ _ _ (fB _ _ bd.nx.1).1];rfl
 have c3:w.cell? ⟨p3,0,none⟩=some (.pointer (some ⟨g,0,none⟩)):=by rw[cell_of_row _ _ _ _ _ _ (pc _ _ bd.nx.1).1];rfl
 have hlen:x.fs.length≤20000:=by have:=hk.1.1;omega
 have HN:=ab hN
 have WI:=ab bF
 obtain ⟨L,hL⟩:∃L,x.fs.length=L:=⟨_,rfl⟩
 have HL:=ab hL
 rw[hL] at b1 hlen
 obtain ⟨u,rfl⟩:=B8 cl
 obtain ⟨f2,f3,f4,_⟩:=j7
 replace f2:u 2=.pointer (some ⟨p2,0,none⟩):=zC f2
 replace f3:u 3=.pointer (some ⟨p3,0,none⟩):=zC f3
 replace f4:u 4=.int .i64 (k:Int):=zC f4
 rw[f2,f3,f4]
 clear f2 f3 f4 cl hR bd hN fB pc bF hL Vc hk jo
 obtain ⟨Q,hQ⟩:∃Q,bodyPost Tryz.prog Tryz.f147 R=Q:=⟨_,rfl⟩
 rw[hQ]
 unfold QU DI BI z'
 dsimp only[Tryz.f147]
 by_cases hz:L=k
 ·have jg:((L:Int)==(k:Int))=true:=by simp[hz]
  have HW:=ab (jl (aa HI).rd)
  have HEq:Hid (mX k x s=.error (bS s)):=by show _=_;unfold mX;rw[if_pos ((aa HL).trans hz)]
  clear hz
  go_wp2_with fail
  refine (aa HW).mono ?_
  rintro e w2 ⟨rfl,bo⟩
  rw[←hQ]
  refine ⟨rfl,aa HR _ _ ?_⟩
  rw[aa HEq]
  exact ⟨rfl,(aa HI).er (aD b bo)⟩
 ·have jg:((L:Int)==(k:Int))=false:=beq_eq_false_iff_ne.2 (by omega)
  have HC:=ab (dX (aa HI).rd (bP (aa HI).rd.grown (by rw[sx (aa WI)];decide)))
  have HEq:Hid (mX k x s=match bC s with|.error e=>.error e|.ok (_,s4)=>.ok (x,s4)):=by
   show _=_
   unfold mX
   rw[if_neg (by rw[aa HL];exact hz)]
   all_goals (cases bC s<;>rfl)
  clear hz
  go_wp2_with fail
  refine (aa HC).mono ?_
  intro e w2 hw
  rcases hw.split with ⟨y,hr,rfl,hg⟩|⟨_,s4,hr,rfl,h4,hg⟩
  ·rw[←hQ]
   refine ⟨rfl,aa HR _ _ ?_⟩
   rw[aa HEq,hr]
   exact ⟨rfl,(aa HI).er hg⟩
  ·have HE:Hid (R (.returned (.tuple #[])) w2):=by
    refine aa HR _ _ ?_
    rw[aa HEq,hr]
    exact ⟨rfl,(aa HI).step (aa HN) h4 hg (ed hr).gu⟩
   clear hw hr h4 hg HC HEq
   go_wp2
   rw[←hQ]
   go_end0
   exact aa HE
end
end Go.Proofs.YtjophoclfccmcaaGreatDoor
namespace Go.Proofs.YtjophoclfccmcaaGreatDoor
open Go.RowKit
attribute [local go_sem ↓] Go.wp_at_zero Go.wp_at_succ
theorem mL.imp {lo b g K op:Nat}{nm:ByteArray}{N N':(Nat→Prop)→World→Prop}{V W w:World}{x:Mp}{s:ax} (h:mL lo b g K op nm N V W x s w) (hi:∀P w,N P w→N' P w):mL lo b g K op nm N' V W x s w:=by
 obtain ⟨h0,⟨vf,vo,vm,ve,vr,vg,cm,ce,bd⟩,hk⟩:=h
 exact ⟨h0,⟨vf,vo,vm,ve,vr,vg,cm,ce,bd.imp (fun h=>⟨hi _ _ h.1,h.2⟩)⟩,hk⟩
theorem mL.join {lo b g K op:Nat}{nm:ByteArray}{N M:(Nat→Prop)→World→Prop}{V W w w':World}{x:Mp}{s:ax} (h:mL lo b g K op nm N V W x s w) (hN:aP N) (hM:aP M) (hb:Below w.heap.size w w') (h1:M (fun k=>w.heap.size≤k) w'):mL lo b g K op nm (fun P w=>N P w∧M P w) V W x s w':=by
 obtain ⟨h0,⟨vf,vo,vm,ve,vr,vg,cm,ce,bd⟩,hk⟩:=h
 exact ⟨h0,⟨vf,vo,vm,ve,vr,vg,cm,ce,(bd.join (tQ.st hN _ _ _) hM (bd.rd.up hb) (aD b hb) h1).imp (fun h=>⟨⟨h.1.1,h.2⟩,h.1.2⟩)⟩,hk⟩
theorem IP.imp {σ:Type}{I J:σ→ax→World→Prop}{Er:World→Prop}{r:Except (Int×Int) (σ×ax)}{e:Ending}{w:World} (h:IP I Er r e w) (hi:∀x s,I x s w→J x s w):IP J Er r e w:=by
 unfold IP at *
 cases r with
 |error y=>exact h
 |ok y=>exact ⟨h.1,hi _ _ h.2⟩
section
variable {lo b g K op p2 p3 : Nat} {nm : ByteArray} {N : (Nat → Prop) → World → Prop} {V W w : World} {x : Mp} {s : ax} {R : Ending → World → Prop}
theorem MR {k:Nat} (h:mL lo b g K op nm N V W x s w) (hN:aP N) (hK:K≤16384) (fB:∀P w,N P w→aX p2 #[.pointer (some ⟨b,0,none⟩)] 74 P w) (pc:∀P w,N P w→aX p3 #[.pointer (some ⟨g,0,none⟩)] 158 P w) {tm:Array Value} (cl:tm.size=41) (j7:Jg tm [(2,.pointer (some ⟨p2,0,none⟩)),(3,.pointer (some ⟨p3,0,none⟩)),(4,.int .i64 (k:Int))])
  (hR:∀e w,IP (mL lo b g K op nm N V W) (Sv g b W) (kr k x s) e w→R e w):DI.wp Tryz.prog (bodyPost Tryz.prog Tryz.f147 R) ⟨tm,[]⟩ w:=by
 obtain ⟨f2,f3,f4,_⟩:=j7
 have k2:=ln f2
 have k3:=ln f3
 have k4:=ln f4
 simp only at k2 k3 k4
 rw[J9]
 refine wp_seq ?_
 obtain ⟨T6,jr⟩:∃T,QU=T:=⟨_,rfl⟩
 rw[jr]
 obtain ⟨Qb,qb⟩:∃Q,bodyPost Tryz.prog Tryz.f147 R=Q:=⟨_,rfl⟩
 rw[qb]
 unfold Yp DI BI z'
 dsimp only[Tryz.f147]
 refine iP (z:=4) (N:=41) 2 (by kernel_rfl) (fun k=>k+25) (fun k=>[.pointer (some ⟨b,0,none⟩),.pointer (some ⟨b,0,none⟩),undef,.func (.func 170) #[] #[.pointer (some ⟨p3,0,none⟩),.pointer (some ⟨p2,0,none⟩)]].getD k undef)
  (fun w=>mL lo b g K op nm N V W x s w)
  (fun y w=>∃mb,y=.map (some mb)∧mL lo b g K op nm (fun P w=>N P w∧iH mb (jW b) P w) V W x s w)
  _ w rfl cl (fun i j _ _ e=>by omega) (fun i hi=>by omega) (by kernel_rfl) (by kernel_rfl) ?_ ?_ ?_ ?_
 ·have hb:=(zE w.heap.size w).drew
  exact h.step hN (h.rd.up hb) (aD b hb) (.refl _)
 ·intro k pS w' hk Vo iQ cB a8 hw
  have dK:w'.cell? ⟨p2,0,none⟩=some (.pointer (some ⟨b,0,none⟩)):=by
   rcases hw with ⟨_,⟨vf,vo,vm,ve,vr,vg,cm,ce,bd⟩,_⟩|⟨_,mb,_,_,⟨vf,vo,vm,ve,vr,vg,cm,ce,bd⟩,_⟩
   ·rw[cell_of_row _ _ _ _ _ _ (fB _ _ bd.nx.1).1];rfl
   ·rw[cell_of_row _ _ _ _ _ _ (fB _ _ bd.nx.1.1).1];rfl
  match k,hk with
  |0,_=>exact aY rfl rfl _ (.tmp 2) rfl ((cB 2 (by intro i hi;omega)).trans k2) (dh _ dK) ⟨rfl,rfl⟩
  |1,_=>exact aY rfl rfl _ (.tmp 2) rfl ((cB 2 (by intro i hi;omega)).trans k2) (dh _ dK) ⟨rfl,rfl⟩
  |2,_=>omega
  |3,_=>exact nV rfl rfl _ _ _ rfl #[] #[.pointer (some ⟨p3,0,none⟩),.pointer (some ⟨p2,0,none⟩)] (by simp) (by simp only[List.map_toArray,List.map_cons,List.map_nil,Act.eval];rw[show pS.getD 3 undef=_ from (cB 3 (by intro i hi;omega)).trans k3,show pS.getD 2 undef=_ from (cB 2 (by intro i hi;omega)).trans k2]) ⟨rfl,rfl⟩
 ·intro _ pS w' iQ cB a8 hw
  refine cE rfl rfl 169 (EB w') _ _ rfl #[.pointer (some ⟨b,0,none⟩)] ?_ (Ev w' b) ?_
  ·simp only[List.map_toArray,List.map_cons,List.map_nil,Act.eval]
   rw[show pS.getD 26 undef=_ from a8 1 (by omega) (by kernel_rfl)]
   rfl
  ·rintro e w2 ⟨rfl,hb,fk⟩
   exact .inl ⟨_,rfl,_,rfl,w'.heap.size,rfl,hw.join hN (fX _ _) hb fk⟩
 ·intro pS w' iQ cB dC hw
  rcases hw with ⟨_,mb,hx,hi⟩|⟨hc,_⟩
  rotate_left
  ·omega
  have KK:aP (fun P w=>N P w∧iH mb (jW b) P w):=hN.and (fX _ _)
  have ub:=Sx (lo:=lo) (g:=g) (op:=op) (p2:=p2) (p3:=p3) (nm:=nm) (V:=V) (W:=W) KK hK (fun P w h=>fB P w h.1) (fun P w h=>pc P w h.1) (fun P w h=>h.2)
  have KH:=zo ub (fun x s w x' s' hI sJ=>wZ Cq (fun x s x' s' h=>jS h) (ub.rd x s w hI).grown sJ) hi
  refine cE rfl rfl 124 (zk w') _ _ rfl #[.pointer (some ⟨b,0,none⟩),.map (some mb),.func (.func 170) #[] #[.pointer (some ⟨p3,0,none⟩),.pointer (some ⟨p2,0,none⟩)]] ?_ KH ?_
  ·simp only[List.map_toArray,List.map_cons,List.map_nil,Act.eval]
   rw[show pS.getD 25 undef=_ from dC 0 (by omega) (by omega),show pS.getD 27 undef=_ from hx,show pS.getD 28 undef=_ from dC 3 (by omega) (by omega)]
   rfl
  ·intro e w2 RM
   have Ty:∀z,ji (bV rK z8) x s=z→kr k x s=(match z with|.error e=>.error e|.ok (x2,s2)=>mX k x2 s2):=fun z hz=>by unfold kr;rw[hz];cases z<;>rfl
   rcases RM.split with ⟨y,hr,rfl,he⟩|⟨x3,s3,hr,rfl,Zw⟩
   ·refine .inr ⟨_,rfl,?_⟩
    show Qb (Exit.panic _) _ _
    rw[←qb]
    refine ⟨rfl,hR _ _ ?_⟩
    rw[Ty _ hr]
    exact ⟨rfl,he⟩
   ·refine .inl ⟨_,rfl,?_⟩
    show T6.wp Tryz.prog Qb ⟨pS.setIfInBounds 29 (.tuple #[]),[]⟩ w2
    rw[←jr,←qb]
    have bF:=(mh (fun x s x' s' h=>(gZ Cq (fun x s x' s' h=>jS h) h).1.gu) hr).2
    refine MQ (p2:=p2) (p3:=p3) (k:=k) Zw KK (fun P w h=>fB P w h.1) (fun P w h=>pc P w h.1) bF (by rw[Array.size_setIfInBounds];exact iQ) ⟨?_,?_,?_,trivial⟩ ?_
    ·exact oI (by rw[Array.size_setIfInBounds,iQ];omega) (by rw[aI (by omega)];exact (cB 2 (by intro i hi;omega)).trans k2)
    ·exact oI (by rw[Array.size_setIfInBounds,iQ];omega) (by rw[aI (by omega)];exact (cB 3 (by intro i hi;omega)).trans k3)
    ·exact oI (by rw[Array.size_setIfInBounds,iQ];omega) (by rw[aI (by omega)];exact (cB 4 (by intro i hi;omega)).trans k4)
    ·intro e w3 ky
     refine hR e w3 ?_
     rw[Ty _ hr]
     exact ky.imp (fun x s h=>h.imp (fun P w h=>h.1))
theorem MS {k:Nat} (h:mL lo b g K op nm N V W x s w) (hN:aP N) (hK:K≤16384) (fB:∀P w,N P w→aX p2 #[.pointer (some ⟨b,0,none⟩)] 74 P w) (pc:∀P w,N P w→aX p3 #[.pointer (some ⟨g,0,none⟩)] 158 P w) (hkf:x.fs.length=k) {tm:Array Value} (cl:tm.size=41) (j7:Jg tm [(2,.pointer (some ⟨p2,0,none⟩)),(3,.pointer (some ⟨p3,0,none⟩))])
  (hR:∀e w,IP (mL lo b g K op nm N V W) (Sv g b W) (kr k x s) e w→R e w):BI.wp Tryz.prog (bodyPost Tryz.prog Tryz.f147 R) ⟨tm,[]⟩ w:=by
 have HI:=ab h
 have HN:=ab hN
 have Ff:=ab fB
 have SZ:=ab pc
 have HR:=ab hR
 have HK:=ab hK
 obtain ⟨jo,⟨vf,vo,vm,ve,vr,vg,cm,ce,bd⟩,hk⟩:=h
 obtain ⟨va,vc,Vc⟩:=bZ (bd.bx.own 0 _ rfl)
 simp only at Vc
 have b1:w.cell? ⟨g,1,none⟩=some (.slice va k vc):=by
  rw[cell_of_row _ _ _ _ _ _ bd.bx.lz,←hkf,←Vc]
  rfl
 have c3:w.cell? ⟨p3,0,none⟩=some (.pointer (some ⟨g,0,none⟩)):=by rw[cell_of_row _ _ _ _ _ _ (pc _ _ bd.nx.1).1];rfl
 have hkb:k≤20000:=by have:=hk.1.1;omega
 obtain ⟨u,rfl⟩:=B8 cl
 obtain ⟨f2,f3,_⟩:=j7
 replace f2:u 2=.pointer (some ⟨p2,0,none⟩):=zC f2
 replace f3:u 3=.pointer (some ⟨p3,0,none⟩):=zC f3
 rw[f2,f3,J']
 clear f2 f3 cl hR bd hN fB pc Vc hk jo hkf hK
 obtain ⟨Q,hQ⟩:∃Q,bodyPost Tryz.prog Tryz.f147 R=Q:=⟨_,rfl⟩
 obtain ⟨T5,Tz⟩:∃T,DI=T:=⟨_,rfl⟩
 rw[hQ,Tz]
 unfold Yq BI z'
 dsimp only[Tryz.f147]
 go_wp2
 rw[←hQ,←Tz]
 exact MR (aa HI) (aa HN) (aa HK) (aa Ff) (aa SZ) rfl ⟨rfl,rfl,rfl,trivial⟩ (aa HR)
theorem MT (h:mL lo b g K op nm N V W x s w) (hN:aP N) (hK:K≤16384) (fB:∀P w,N P w→aX p2 #[.pointer (some ⟨b,0,none⟩)] 74 P w) (pc:∀P w,N P w→aX p3 #[.pointer (some ⟨g,0,none⟩)] 158 P w) {iN:Array Value} (oZ:iN.size=41) (j7:Jg iN [(2,.pointer (some ⟨p2,0,none⟩)),(3,.pointer (some ⟨p3,0,none⟩))])
  (hR:∀e w,IP (mL lo b g K op nm N V W) (Sv g b W) (match aQ s with|.error e=>.error e|.ok (a,s2)=>kr x.fs.length { x with os:=x.os++[a] } s2) e w→R e w):z'.wp Tryz.prog (bodyPost Tryz.prog Tryz.f147 R) ⟨iN,[]⟩ w:=by
 obtain ⟨f2,f3,_⟩:=j7
 have k2:=ln f2
 have k3:=ln f3
 simp only at k2 k3
 obtain ⟨jo,⟨vf,vo,vm,ve,vr,vg,cm,ce,bd⟩,hk⟩:=h
 have xw:=hk
 obtain ⟨⟨l1,l2,l3,l4,l5,l6⟩,fP,hn,jX⟩:=hk
 have hS:=tQ.st (g:=g) hN x cm ce
 have hi:(sY x vf vo vm ve vr vg cm ce)[1]?=some ⟨9,1,vo,x.os.length,dV x.os⟩:=rfl
 obtain ⟨va,vn,vc,hv⟩:=aU (bd.bx.own 1 _ hi)
 simp only at hv
 obtain ⟨ei,me,oX,rW,fx⟩:=Cd (sl:=⟨9,1,vo,x.os.length,dV x.os⟩) rfl rfl
 have fk:∀P w,tQ g N x cm ce P w→∀c ∈ ([(p3,#[.pointer (some ⟨g,0,none⟩)],158),(p2,#[.pointer (some ⟨b,0,none⟩)],74)]:List (Nat×Array Value×TypeId)),aX c.1 c.2.1 c.2.2 P w:=fun P w hw c hc=>by
  simp only[List.mem_cons,List.not_mem_nil,or_false] at hc
  rcases hc with rfl|rfl
  ·exact pc P w hw.1
  ·exact fB P w hw.1
 have cK:=Ph.base (lo:=lo) (b:=b) (g:=g) (T:=49) (nm:=nm) (V:=V) (W:=W) (s:=s) (r:=aQ s) (N1:=fun (a:ByteArray) x _ _=>x=Value.string a) fk hi
 have js:∀(a:ByteArray) (x:Value),aP (fun (_:Nat→Prop) (_:World)=>x=Value.string a):=fun _ _=>fun _ _ _ _ _ h=>h
 have hd:=bd.up hS (zE w.heap.size w).drew
 rw[Ka]
 refine wp_seq ?_
 obtain ⟨T4,Oj⟩:∃T,BI=T:=⟨_,rfl⟩
 rw[Oj]
 obtain ⟨Qb,qb⟩:∃Q,bodyPost Tryz.prog Tryz.f147 R=Q:=⟨_,rfl⟩
 rw[qb]
 unfold Yr z'
 dsimp only[Tryz.f147]
 refine dv (z:=11) (N:=41) (c:=6) (by kernel_rfl) (fun k=>k+9) (fun k=>[.pointer (some ⟨g,0,none⟩),.pointer (some ⟨g,0,none⟩),.pointer (some ⟨g,0,none⟩),.pointer (some ⟨g,2,none⟩),vo,.pointer (some ⟨b,0,none⟩),undef,undef,undef,.pointer (some ⟨g,0,none⟩),.pointer (some ⟨g,2,none⟩)].getD k undef) (Ph lo b g 49 nm (sY x vf vo vm ve vr vg cm ce) (tQ g N x cm ce) V W s ⟨9,1,vo,x.os.length,dV x.os⟩ (aQ s) (fun a x _ _=>x=Value.string a)) _ w rfl oZ (fun i j _ _ e=>by omega) (fun i hi=>by omega) (by kernel_rfl) (by omega) (by kernel_rfl) (by kernel_rfl) (by kernel_rfl) hd ?_ ?_ ?_ ?_ ?_
 ·intro k tm w hk hq cl cB a8 bN
  obtain ⟨ph,y,bN⟩:=bN
  have hB:=cK ph y w bN
  match k,hk with
  |0,_=>exact aY rfl rfl _ (.tmp 3) rfl ((cB 3 (by intro i hi;omega)).trans k3) (cT w (hB.cell (List.mem_cons_self ..) rfl)) ⟨rfl,rfl⟩
  |1,_=>exact aY rfl rfl _ (.tmp 3) rfl ((cB 3 (by intro i hi;omega)).trans k3) (cT w (hB.cell (List.mem_cons_self ..) rfl)) ⟨rfl,rfl⟩
  |2,_=>exact bc rfl rfl (.tmp 10) rfl (a8 1 (by omega) (by kernel_rfl)) ⟨rfl,rfl⟩
  |3,_=>exact bW rfl rfl _ (.tmp 11) _ rfl (a8 2 (by omega) (by kernel_rfl)) (Ce w) ⟨rfl,rfl⟩
  |4,_=>exact aY rfl rfl _ (.tmp 12) rfl (a8 3 (by omega) (by kernel_rfl)) (by rw[hv];exact xp w (by rw[←hv];exact hB.row hi)) ⟨rfl,rfl⟩
  |5,_=>exact aY rfl rfl _ (.tmp 2) rfl ((cB 2 (by intro i hi;omega)).trans k2) (dh w (hB.cell (zF _ (List.mem_cons_self ..)) rfl)) ⟨rfl,rfl⟩
  |6,_=>omega
  |7,_=>omega
  |8,_=>omega
  |9,_=>exact bc rfl rfl (.tmp 9) rfl (a8 0 (by omega) (by kernel_rfl)) ⟨rfl,rfl⟩
  |10,_=>exact bW rfl rfl _ (.tmp 18) _ rfl (a8 9 (by omega) (by kernel_rfl)) (Ce w) ⟨rfl,rfl⟩
 ·intro tm w cl cB a8 bN
  have KJ:Ap lo b g 49 nm (sY x vf vo vm ve vr vg cm ce) (tQ g N x cm ce) V W s w:=bN
  refine cE rfl rfl 123 (O' w) _ _ rfl #[.pointer (some ⟨b,0,none⟩)] ?_ ((kU KJ.rd fP).mono fun e w2 h2=>h2.cr) ?_
  ·simp only[List.map_toArray,List.map_cons,List.map_nil,Act.eval]
   rw[show tm.getD 14 undef=_ from a8 5 (by omega) (by kernel_rfl)]
   rfl
  ·intro e w' ky
   rcases Ph.call hS js bN ky with ⟨y,rfl,h1⟩|⟨y,hr,rfl,hs⟩
   ·exact .inl ⟨y,rfl,y,rfl,h1⟩
   ·exact .inr ⟨_,rfl,by show Qb (Exit.panic _) _ _;rw[←qb];exact ⟨rfl,hR _ _ (by rw[hr];exact ⟨rfl,hs⟩)⟩⟩
 ·intro tm w y cl hx bN
  obtain ⟨a,s',hr,iI,KJ⟩:=id bN
  obtain ⟨f1,f2,f3⟩:=fx a y (fun _=>True) w iI
  exact kh rfl rfl _ _ _ rfl #[(0,y)] (by simp only[List.map_toArray,List.map_cons,List.map_nil,Act.eval];rw[show tm.getD 15 undef=y from hx]) (f3 w) ⟨_,rfl,Ph.bs hS js bN⟩
 ·intro tm w y cl a8 hy bN
  obtain ⟨a,s',z,gy,hr,rfl,sK,iI,KJ⟩:=id bN
  obtain ⟨f1,f2,f3⟩:=fx a z (fun _=>True) w iI
  have hl:=KJ.bx.lt
  refine cw w rfl rfl (.tmp 13) (.tmp 16) 22 rfl (g+1) 9 1 16 me ei oX vo x.os.length (dV x.os) (a8 4 (by omega) (by kernel_rfl)) (KJ.bx.own 1 _ hi) ⟨gy,0,none⟩ 1 1 z.cells.toList hy (by rw[Array.length_toList,f1]) (ep sK) f2 (by unfold maxLen;omega) (by omega) (by omega) ?_
  intro v' w' h1 h2 h3
  exact ⟨v',rfl,Ph.app hr KJ h2 h1 h3⟩
 ·intro tm w y cl cB dC hy bN
  have hB:=cK 3 y w bN
  obtain ⟨a,s',z,w2,hr,h1,h2,h3,h4⟩:=id bN
  obtain ⟨ya,yn,yc,rfl⟩:=aU h3
  refine eu rfl rfl _ (.tmp 19) (.tmp 17) rfl (dC 10 (by omega) (by omega)) hy (BA w (hB.row hi) (hB.frozen _)) ?_
  show T4.wp Tryz.prog Qb ⟨tm,[]⟩ _
  rw[←Oj,←qb]
  rcases CP.plain xW (Ph.last hS js hi bN) with ⟨y',Ly,he,_⟩|⟨a',s2,v2,Ly,_,ij⟩
  ·rw[hr] at Ly;cases Ly
  ·have KE:=gz Ly
   have dr:=KE.lt (kS Ly bd.rd.grown)
   refine MS (x:={ x with os:=x.os++[a'] }) (s:=s2) (k:=x.fs.length) ⟨jo,⟨vf,v2,vm,ve,vr,vg,cm,ce,ij⟩,⟨⟨by simp only;omega,by simp only[zK,List.length_singleton];omega,by simp only;omega,by simp only;omega,by simp only;omega,by simp only;omega⟩,KE.gu.sm fP,by omega,KE.gu.op.trans jX⟩⟩ hN hK fB pc rfl cl ⟨?_,?_,trivial⟩ ?_
   ·exact oI (by rw[cl];omega) ((cB 2 (by intro i hi;omega)).trans k2)
   ·exact oI (by rw[cl];omega) ((cB 3 (by intro i hi;omega)).trans k3)
   ·intro e w3 RM
    refine hR e w3 ?_
    rw[Ly]
    exact RM
end
end Go.Proofs.YtjophoclfccmcaaGreatDoor
namespace Go.Proofs.YtjophoclfccmcaaGreatDoor
open Go.RowKit
attribute [local go_sem ↓] Go.wp_at_zero Go.wp_at_succ
section
variable {lo b g K op : Nat} {nm : ByteArray} {N : (Nat → Prop) → World → Prop} {V W w0 : World} {x : Mp} {s : ax}
theorem J8 (h:mL lo b g K op nm N V W x s w0) (hN:aP N) (hK:K≤16384) (hp:0<s.ts.length):Calls Tryz.prog 147 #[.pointer (some ⟨b,0,none⟩),.pointer (some ⟨g,0,none⟩)] w0 (IP (mL lo b g K op nm N V W) (Sv g b W) (fM x s)):=by
 have bo:Below w0.heap.size w0 ((w0.alloc (.cells #[.pointer (some ⟨b,0,none⟩)] 74)).alloc (.cells #[.pointer (some ⟨g,0,none⟩)] 158)):=((zE _ _).alloc (zD _) _).alloc (by rw[zJ];omega) _
 have iZ:((w0.alloc (.cells #[.pointer (some ⟨b,0,none⟩)] 74)).alloc (.cells #[.pointer (some ⟨g,0,none⟩)] 158)).heap[w0.heap.size]?=some (.cells #[.pointer (some ⟨b,0,none⟩)] 74 (0,0)):=(Below.heap_alloc _ _ _ (by rw[zJ];omega)).trans (aF _ _)
 have ew:((w0.alloc (.cells #[.pointer (some ⟨b,0,none⟩)] 74)).alloc (.cells #[.pointer (some ⟨g,0,none⟩)] 158)).heap[w0.heap.size+1]?=some (.cells #[.pointer (some ⟨g,0,none⟩)] 158 (0,0)):=by
  have:=aF (w0.alloc (.cells #[.pointer (some ⟨b,0,none⟩)] 74)) (.cells #[.pointer (some ⟨g,0,none⟩)] 158)
  rw[zJ] at this
  exact this
 have hS:aP (fun P w=>aX w0.heap.size #[.pointer (some ⟨b,0,none⟩)] 74 P w∧aX (w0.heap.size+1) #[.pointer (some ⟨g,0,none⟩)] 158 P w):=(bz _ _ _).and (bz _ _ _)
 have hj:=h.join hN hS bo ⟨⟨iZ,zD _⟩,⟨ew,by omega⟩⟩
 have HS:=ab (hN.and hS)
 have HI:=ab hj
 have c0:((w0.alloc (.cells #[.pointer (some ⟨b,0,none⟩)] 74)).alloc (.cells #[.pointer (some ⟨g,0,none⟩)] 158)).cell? ⟨w0.heap.size,0,none⟩=some (.pointer (some ⟨b,0,none⟩)):=by rw[cell_of_row _ _ _ _ _ _ iZ];rfl
 have i':∀s' w',mL lo b g K op nm (fun P w=>N P w∧(aX w0.heap.size #[.pointer (some ⟨b,0,none⟩)] 74 P w∧aX (w0.heap.size+1) #[.pointer (some ⟨g,0,none⟩)] 158 P w)) V W x s' w'→w'.cell? ⟨w0.heap.size,0,none⟩=some (.pointer (some ⟨b,0,none⟩)):=by
  rintro s' w' ⟨_,⟨vf,vo,vm,ve,vr,vg,cm,ce,bd⟩,_⟩
  rw[cell_of_row _ _ _ _ _ _ bd.nx.1.2.1.1];rfl
 have HCl:=ab i'
 have HC:=ab (fK hj.rd)
 have HK:=ab hK
 clear h hN hS bo iZ ew hj i' hK
 refine calls_of_wp Tryz.func147 MM ?_
 obtain ⟨tl,pG⟩:∃t,z'=t:=⟨_,rfl⟩
 rw[pG]
 obtain ⟨Q,hQ⟩:∃Q,bodyPost Tryz.prog Tryz.f147 (IP (mL lo b g K op nm N V W) (Sv g b W) (fM x s))=Q:=⟨_,rfl⟩
 rw[hQ]
 unfold MP
 dsimp only[Tryz.f147]
 simp only[List.size_toArray,List.length_cons,List.length_nil,Nat.reduceAdd,Nat.reduceSub,Array.replicate_succ,Array.replicate_zero,List.push_toArray,List.append_toArray,List.nil_append,List.cons_append]
 go_wp2_with fail
 refine (aa HC).mono ?_
 rintro e w1 ⟨rfl,h1,lY⟩
 have Js:=ab ((aa HI).step (s':=s.begun) (aa HS) h1 lY ⟨0,rfl,rfl,rfl⟩)
 have c1:=aa HCl _ _ (aa Js)
 have HN:=ab (dX h1 hp)
 clear h1 lY HC c0 HI
 go_wp2_with fail
 refine (aa HN).mono ?_
 intro e w2 hw
 rcases hw.split with ⟨y,hr,rfl,hg⟩|⟨_,s1,hr,rfl,h2,hg⟩
 ·show Q (Exit.panic _) _ _
  rw[←hQ]
  refine ⟨rfl,?_⟩
  unfold fM
  rw[hr]
  exact ⟨rfl,(aa Js).er hg⟩
 ·have LN:=ab ((aa Js).step (aa HS) h2 hg (ed hr).gu)
  have HF:Hid (fM x s=match aQ s1 with|.error e=>.error e|.ok (a,s2)=>kr x.fs.length { x with os:=x.os++[a] } s2):=by
   show _=_
   unfold fM
   rw[hr]
   simp only
   all_goals (cases aQ s1<;>rfl)
  clear hw hr h2 hg HN Js c1
  go_wp2
  rw[←pG,←hQ]
  refine MT (p2:=w0.heap.size) (p3:=w0.heap.size+1) (aa LN) (aa HS) (aa HK) (fun P w h=>h.2.1) (fun P w h=>h.2.2) rfl ⟨rfl,rfl,trivial⟩ ?_
  intro e w3 RM
  rw[aa HF]
  exact RM.imp (fun x s h=>h.imp (fun P w h=>h.1))
theorem Np {pm pr:Nat} (h:mL lo b g K op nm N V W x s w0) (hN:aP N) (hK:K≤16384) (p':∀P w,N P w→aX pr #[.pointer (some ⟨b,0,none⟩)] 74 P w) (fB:∀P w,N P w→aX pm #[.pointer (some ⟨g,0,none⟩)] 158 P w) (hp:0<s.ts.length):Calls Tryz.prog 146 #[.pointer (some ⟨pr,0,none⟩),.pointer (some ⟨pm,0,none⟩)] w0 (IP (mL lo b g K op nm N V W) (Sv g b W) (fM x s)):=by
 have HC:=ab (J8 h hN hK hp)
 obtain ⟨_,⟨vf,vo,vm,ve,vr,vg,cm,ce,bd⟩,_⟩:=h
 have c1:w0.cell? ⟨pr,0,none⟩=some (.pointer (some ⟨b,0,none⟩)):=by rw[cell_of_row _ _ _ _ _ _ (p' _ _ bd.nx.1).1];rfl
 have c2:w0.cell? ⟨pm,0,none⟩=some (.pointer (some ⟨g,0,none⟩)):=by rw[cell_of_row _ _ _ _ _ _ (fB _ _ bd.nx.1).1];rfl
 clear bd hN p' fB
 go_enter Tryz.func146,Tryz.ntmps146
 go_wp2_with fail
 refine (aa HC).mono ?_
 intro e w1 hw
 have HW:=ab hw
 rcases hw.split with ⟨y,hr,rfl,he⟩|⟨x',s',hr,rfl,hi⟩
 ·exact ⟨rfl,aa HW⟩
 ·clear hr hi hw HC c1 c2
  go_wp2
  go_end0
  exact aa HW
end
theorem UJ {lo b g K op p1 pv:Nat}{nm:ByteArray}{N:(Nat→Prop)→World→Prop}{V W:World}{mf:ax→Except (Int×Int) (Ms×ax)} (hN:aP N) (hK:K≤16384) (p':∀P w,N P w→aX p1 #[.pointer (some ⟨b,0,none⟩)] 74 P w) (fB:∀P w,N P w→aX pv #[.pointer (some ⟨b,0,none⟩)] 74 P w) (pc:∀P w,N P w→aX (pv+1) #[.pointer (some ⟨g,0,none⟩)] 158 P w) (hm:∀P w,N P w→iH (pv+2) (jJ pv b) P w)
  (KE:∀s m s',mf s=.ok (m,s')→Gt s s') (IG:∀lo b V W s,Env V W b→Rd lo W b s→Sm s→s.ts.length≤K→0<s.ts.length→Calls Tryz.prog 103 #[.pointer (some ⟨b,0,none⟩)] W (CR lo b NM W (mf s))) :
  EL (mL lo b g K op nm N V W) (Sv g b W) lo b (pv+2) (jJ pv b) (.func (.func 126) #[] #[.pointer (some ⟨g,0,none⟩),.pointer (some ⟨p1,0,none⟩)]) (mw mf) E0:=by
 refine ⟨fun x s w h=>h.rd,fun x s w s' w' h hr hg hs=>h.step hN hr hg hs,fun x s w w' h hg=>h.er hg,fun x s w h=>?_,fun k=>?_,fun k v f hv hf x s w h hk ht=>?_,fun x s w h=>?_⟩
 ·obtain ⟨_,⟨vf,vo,vm,ve,vr,vg,cm,ce,bd⟩,_⟩:=h
  exact ⟨_,hm _ _ bd.nx.1⟩
 ·unfold jJ mw
  simp only[jT]
  by_cases q0:(k==⟨#[109,101,115,115,97,103,101]⟩)=true
  ·exact .inr ⟨_,_,_,_,by rw[if_pos q0],by rw[if_pos q0]⟩
  rw[if_neg q0,if_neg q0]
  by_cases q1:(k==⟨#[101,110,117,109]⟩)=true
  ·exact .inr ⟨_,_,_,_,by rw[if_pos q1],by rw[if_pos q1]⟩
  rw[if_neg q1,if_neg q1]
  by_cases q2:(k==⟨#[111,110,101,111,102]⟩)=true
  ·exact .inr ⟨_,_,_,_,by rw[if_pos q2],by rw[if_pos q2]⟩
  rw[if_neg q2,if_neg q2]
  by_cases q3:(k==⟨#[114,101,115,101,114,118,101,100]⟩)=true
  ·exact .inr ⟨_,_,_,_,by rw[if_pos q3],by rw[if_pos q3]⟩
  rw[if_neg q3,if_neg q3]
  by_cases q4:(k==⟨#[111,112,116,105,111,110,97,108]⟩)=true
  ·exact .inr ⟨_,_,_,_,by rw[if_pos q4],by rw[if_pos q4]⟩
  rw[if_neg q4,if_neg q4]
  by_cases q5:(k==⟨#[114,101,112,101,97,116,101,100]⟩)=true
  ·exact .inr ⟨_,_,_,_,by rw[if_pos q5],by rw[if_pos q5]⟩
  rw[if_neg q5,if_neg q5]
  by_cases q6:(k==⟨#[109,97,112]⟩)=true
  ·exact .inr ⟨_,_,_,_,by rw[if_pos q6],by rw[if_pos q6]⟩
  rw[if_neg q6,if_neg q6]
  by_cases q7:(k==⟨#[111,112,116,105,111,110]⟩)=true
  ·exact .inr ⟨_,_,_,_,by rw[if_pos q7],by rw[if_pos q7]⟩
  rw[if_neg q7,if_neg q7]
  by_cases q8:(k==⟨#[101,120,116,101,110,100]⟩)=true
  ·exact .inr ⟨_,_,_,_,by rw[if_pos q8],by rw[if_pos q8]⟩
  rw[if_neg q8,if_neg q8]
  by_cases q9:(k==⟨#[101,120,116,101,110,115,105,111,110,115]⟩)=true
  ·exact .inr ⟨_,_,_,_,by rw[if_pos q9],by rw[if_pos q9]⟩
  rw[if_neg q9,if_neg q9]
  by_cases EY:(k==⟨#[103,114,111,117,112]⟩)=true
  ·exact .inr ⟨_,_,_,_,by rw[if_pos EY],by rw[if_pos EY]⟩
  rw[if_neg EY,if_neg EY]
  by_cases PW:(k==⟨#[114,101,113,117,105,114,101,100]⟩)=true
  ·exact .inr ⟨_,_,_,_,by rw[if_pos PW],by rw[if_pos PW]⟩
  rw[if_neg PW,if_neg PW]
  exact .inl ⟨rfl,rfl⟩
 ·unfold jJ at hv
  unfold mw at hf
  simp only[jT] at hv
  by_cases q0:(k==⟨#[109,101,115,115,97,103,101]⟩)=true
  ·rw[if_pos q0] at hv hf
   obtain rfl:=zC hv
   obtain rfl:=zC hf
   obtain ⟨jo,⟨vf,vo,vm,ve,vr,vg,cm,ce,bd⟩,xw⟩:=h
   have II:=xw
   obtain ⟨⟨l1,l2,l3,l4,l5,l6⟩,fP,hn,jX⟩:=II
   have dN:=bP bd.rd.grown (by rw[hk];decide)
   refine ⟨_,_,_,rfl,Av w,?_⟩
   refine (Wd (pm:=pv+1) (pr:=pv) (r:=mf s) (sl:=⟨49,7,vm,x.ms.length,cm⟩) bd (tQ.st hN _ _ _) rfl (Eg g rfl rfl) (by simp only;omega) (fun P w hw c hc=>by
    simp only[List.mem_cons,List.not_mem_nil,or_false] at hc
    rcases hc with rfl|rfl
    ·exact pc P w hw.1
    ·exact fB P w hw.1) (fun w' s2 M _ lX e=>by
    subst e
    exact (IG lo b V w' s2 lX.ev lX.rd fP (by omega) dN).mono fun e w3 h3=>h3.Yy (by have:=lX.bx.lt;omega))).mono ?_
   intro e w' hw
   exact UL jo xw dN (fun d s' hr=>KE _ _ _ hr) hw
  rw[if_neg q0] at hv hf
  by_cases q1:(k==⟨#[101,110,117,109]⟩)=true
  ·rw[if_pos q1] at hv hf
   obtain rfl:=zC hv
   obtain rfl:=zC hf
   obtain ⟨jo,⟨vf,vo,vm,ve,vr,vg,cm,ce,bd⟩,xw⟩:=h
   have II:=xw
   obtain ⟨⟨l1,l2,l3,l4,l5,l6⟩,fP,hn,jX⟩:=II
   have dN:=bP bd.rd.grown (by rw[hk];decide)
   refine ⟨_,_,_,rfl,Au w,?_⟩
   refine (Nr (pm:=pv+1) (pr:=pv) (bt:=88) (r:=dd s) (sl:=⟨71,4,ve,x.es.length,ce⟩) (N1:=Wh g) bd (tQ.st hN _ _ _) (yb g) rfl (A3 g rfl rfl) (by simp only;omega) (fun P w hw c hc=>by
    simp only[List.mem_cons,List.not_mem_nil,or_false] at hc
    rcases hc with rfl|rfl
    ·exact pc P w hw.1
    ·exact fB P w hw.1) (fun w' lX=>(Ek lX.ev lX.rd fP (by omega) dN).mono fun e w3 h3=>h3.TF (by have:=lX.bx.lt;omega))).mono ?_
   intro e w' hw
   exact Q6 jo xw dN (fun d s' hr=>ru hr) hw
  rw[if_neg q1] at hv hf
  by_cases q2:(k==⟨#[111,110,101,111,102]⟩)=true
  ·rw[if_pos q2] at hv hf
   obtain rfl:=zC hv
   obtain rfl:=zC hf
   exact ⟨_,_,_,rfl,At w,Np h hN hK fB pc (bP h.rd.grown (by rw[hk];decide))⟩
  rw[if_neg q2] at hv hf
  by_cases q3:(k==⟨#[114,101,115,101,114,118,101,100]⟩)=true
  ·rw[if_pos q3] at hv hf
   obtain rfl:=zC hv
   obtain rfl:=zC hf
   obtain ⟨jo,⟨vf,vo,vm,ve,vr,vg,cm,ce,bd⟩,xw⟩:=h
   have II:=xw
   obtain ⟨⟨l1,l2,l3,l4,l5,l6⟩,fP,hn,jX⟩:=II
   have dN:=bP bd.rd.grown (by rw[hk];decide)
   refine ⟨_,_,_,rfl,Ar w,?_⟩
   refine (Nn (pm:=pv+1) (pr:=pv) (rs:=x.rs) (gs:=x.gs) (vr:=vr) (vg:=vg) bd (tQ.st hN _ _ _) rfl rfl dN fP l5 l6 (fun P w h=>fB P w h.1) (fun P w h=>pc P w h.1)).mono ?_
   intro e w' hw
   exact UK jo xw hw
  rw[if_neg q3] at hv hf
  by_cases q4:(k==⟨#[111,112,116,105,111,110,97,108]⟩)=true
  ·rw[if_pos q4] at hv hf
   obtain rfl:=zC hv
   obtain rfl:=zC hf
   obtain ⟨jo,⟨vf,vo,vm,ve,vr,vg,cm,ce,bd⟩,xw⟩:=h
   have II:=xw
   obtain ⟨⟨l1,l2,l3,l4,l5,l6⟩,fP,hn,jX⟩:=II
   have dN:=bP bd.rd.grown (by rw[hk];decide)
   refine ⟨_,_,_,rfl,Aq w,?_⟩
   refine (Nl (pm:=pv+1) (pr:=pv) (bt:=72) (r:=cU 2 s) (sl:=⟨45,6,vf,x.fs.length,mF x.fs⟩) (N1:=fun a x _ _=>x=a.val) bd (tQ.st hN _ _ _) (fun _ _=>fun _ _ _ _ _ h=>h) rfl (rA rfl rfl) (by simp only;omega) (fun P w hw c hc=>by
    simp only[List.mem_cons,List.not_mem_nil,or_false] at hc
    rcases hc with rfl|rfl
    ·exact pc P w hw.1
    ·exact fB P w hw.1) (fun w' lX=>(rb 2 lX.ev lX.rd fP (by omega) dN).mono fun e w2 h2=>h2.cr)).mono ?_
   intro e w' hw
   exact yz jo xw (.inl dN) (fun d s' hr=>lH hr) hw
  rw[if_neg q4] at hv hf
  by_cases q5:(k==⟨#[114,101,112,101,97,116,101,100]⟩)=true
  ·rw[if_pos q5] at hv hf
   obtain rfl:=zC hv
   obtain rfl:=zC hf
   obtain ⟨jo,⟨vf,vo,vm,ve,vr,vg,cm,ce,bd⟩,xw⟩:=h
   have II:=xw
   obtain ⟨⟨l1,l2,l3,l4,l5,l6⟩,fP,hn,jX⟩:=II
   have dN:=bP bd.rd.grown (by rw[hk];decide)
   refine ⟨_,_,_,rfl,Ao w,?_⟩
   refine (Nk (pm:=pv+1) (pr:=pv) (bt:=72) (r:=cU 3 s) (sl:=⟨45,6,vf,x.fs.length,mF x.fs⟩) (N1:=fun a x _ _=>x=a.val) bd (tQ.st hN _ _ _) (fun _ _=>fun _ _ _ _ _ h=>h) rfl (rA rfl rfl) (by simp only;omega) (fun P w hw c hc=>by
    simp only[List.mem_cons,List.not_mem_nil,or_false] at hc
    rcases hc with rfl|rfl
    ·exact pc P w hw.1
    ·exact fB P w hw.1) (fun w' lX=>(rb 3 lX.ev lX.rd fP (by omega) dN).mono fun e w2 h2=>h2.cr)).mono ?_
   intro e w' hw
   exact yz jo xw (.inl dN) (fun d s' hr=>lH hr) hw
  rw[if_neg q5] at hv hf
  by_cases q6:(k==⟨#[109,97,112]⟩)=true
  ·rw[if_pos q6] at hv hf
   obtain rfl:=zC hv
   obtain rfl:=zC hf
   obtain ⟨jo,⟨vf,vo,vm,ve,vr,vg,cm,ce,bd⟩,xw⟩:=h
   have II:=xw
   obtain ⟨⟨l1,l2,l3,l4,l5,l6⟩,fP,hn,jX⟩:=II
   have dN:=bP bd.rd.grown (by rw[hk];decide)
   refine ⟨_,_,_,rfl,Am w,?_⟩
   refine (Nj (pm:=pv+1) (pr:=pv) (bt:=72) (r:=dg s) (sl:=⟨45,6,vf,x.fs.length,mF x.fs⟩) (N1:=fun a x _ _=>x=a.val) bd (tQ.st hN _ _ _) (fun _ _=>fun _ _ _ _ _ h=>h) rfl (rA rfl rfl) (by simp only;omega) (fun P w hw c hc=>by
    simp only[List.mem_cons,List.not_mem_nil,or_false] at hc
    rcases hc with rfl|rfl
    ·exact pc P w hw.1
    ·exact fB P w hw.1) (fun w' lX=>(yD lX.ev lX.rd fP (by omega) dN).mono fun e w2 h2=>h2.cr)).mono ?_
   intro e w' hw
   exact yz jo xw (.inl dN) (fun d s' hr=>Oo hr) hw
  rw[if_neg q6] at hv hf
  by_cases q7:(k==⟨#[111,112,116,105,111,110]⟩)=true
  ·rw[if_pos q7] at hv hf
   obtain rfl:=zC hv
   obtain rfl:=zC hf
   exact dI h.rd (fun w' hg=>h.er hg)
  rw[if_neg q7] at hv hf
  by_cases q8:(k==⟨#[101,120,116,101,110,100]⟩)=true
  ·rw[if_pos q8] at hv hf
   obtain rfl:=zC hv
   obtain rfl:=zC hf
   exact dI h.rd (fun w' hg=>h.er hg)
  rw[if_neg q8] at hv hf
  by_cases q9:(k==⟨#[101,120,116,101,110,115,105,111,110,115]⟩)=true
  ·rw[if_pos q9] at hv hf
   obtain rfl:=zC hv
   obtain rfl:=zC hf
   exact dI h.rd (fun w' hg=>h.er hg)
  rw[if_neg q9] at hv hf
  by_cases EY:(k==⟨#[103,114,111,117,112]⟩)=true
  ·rw[if_pos EY] at hv hf
   obtain rfl:=zC hv
   obtain rfl:=zC hf
   exact dI h.rd (fun w' hg=>h.er hg)
  rw[if_neg EY] at hv hf
  by_cases PW:(k==⟨#[114,101,113,117,105,114,101,100]⟩)=true
  ·rw[if_pos PW] at hv hf
   obtain rfl:=zC hv
   obtain rfl:=zC hf
   exact dI h.rd (fun w' hg=>h.er hg)
  rw[if_neg PW] at hv hf
  cases hv
 ·obtain ⟨jo,⟨vf,vo,vm,ve,vr,vg,cm,ce,bd⟩,hk⟩:=h
  have xw:=hk
  obtain ⟨⟨l1,l2,l3,l4,l5,l6⟩,fP,hn,jX⟩:=hk
  refine ⟨_,_,_,rfl,Al w,?_⟩
  refine (M5 (pr:=p1) (bt:=72) (r:=cu 0 s) (sl:=⟨45,6,vf,x.fs.length,mF x.fs⟩) (N1:=fun a x _ _=>x=a.val) bd (tQ.st hN _ _ _) (fun _ _=>fun _ _ _ _ _ h=>h) rfl (rA rfl rfl) (by simp only;omega) (fun P w hw c hc=>?_) (fun w' lX=>(sw 0 lX.ev lX.rd fP (by omega)).mono fun e w2 h2=>h2.cr)).mono ?_
  ·simp only[List.mem_cons,List.not_mem_nil,or_false] at hc
   subst hc
   exact p' P w hw.1
  ·intro e w' hw
   exact yz jo xw (.inr (fun d s' hr=>(jQ hr).2 bd.rd.grown)) (fun d s' hr=>(jQ hr).1) hw
end Go.Proofs.YtjophoclfccmcaaGreatDoor

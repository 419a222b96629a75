import Derived.Test.YtmlphohdcejniaaGreatDoorPbT
set_option maxHeartbeats 4000000
set_option maxRecDepth 100000
namespace Go.Proofs.YtmlphohdcejniaaGreatDoor
open Go.RowKit
attribute [local go_sem ↓] Go.wp_at_zero Go.wp_at_succ
theorem RL {lo b g K op p2 p3 mb:Nat}{nm:ByteArray}{N:(Nat→Prop)→World→Prop}{V W:World} (hN:aK N) (hK:K≤16384) (gJ:∀P w,N P w→aP p2 #[.pointer (some ⟨b,0,none⟩)] 107 P w) (lr:∀P w,N P w→aP p3 #[.pointer (some ⟨g,0,none⟩)] 167 P w) (hm:∀P w,N P w→ij mb (jw b) P w) :
  Ez (mx lo b g K op nm N V W) (Sv g b W) lo b mb (jw b) (.func (.func 173) #[] #[.pointer (some ⟨p3,0,none⟩),.pointer (some ⟨p2,0,none⟩)]) zh Ds:=by
 refine ⟨fun x s w h=>h.rd,fun x s w s' w' h hr hg hs=>h.step hN hr hg hs,fun x s w w' h hg=>h.er hg,fun x s w h=>?_,fun k=>?_,fun k v f hv hf x s w h hk ht=>?_,fun x s w h=>?_⟩
 ·obtain ⟨_,⟨vf,vo,vm,ve,vr,vg,cm,ce,aZ⟩,_⟩:=h
  exact ⟨_,hm _ _ aZ.nx.1⟩
 ·unfold jw zh
  simp only[jt]
  by_cases q0:(k==⟨#[111,112,116,105,111,110]⟩)=true
  ·exact .inr ⟨_,_,_,_,by rw[if_pos q0],by rw[if_pos q0]⟩
  rw[if_neg q0,if_neg q0]
  by_cases q1:(k==⟨#[103,114,111,117,112]⟩)=true
  ·exact .inr ⟨_,_,_,_,by rw[if_pos q1],by rw[if_pos q1]⟩
  rw[if_neg q1,if_neg q1]
  by_cases q2:(k==⟨#[111,112,116,105,111,110,97,108]⟩)=true
  ·exact .inr ⟨_,_,_,_,by rw[if_pos q2],by rw[if_pos q2]⟩
  rw[if_neg q2,if_neg q2]
  by_cases q3:(k==⟨#[114,101,112,101,97,116,101,100]⟩)=true
  ·exact .inr ⟨_,_,_,_,by rw[if_pos q3],by rw[if_pos q3]⟩
  rw[if_neg q3,if_neg q3]
  by_cases q4:(k==⟨#[114,101,113,117,105,114,101,100]⟩)=true
  ·exact .inr ⟨_,_,_,_,by rw[if_pos q4],by rw[if_pos q4]⟩
  rw[if_neg q4,if_neg q4]
  by_cases q5:(k==⟨#[111,110,101,111,102]⟩)=true
  ·exact .inr ⟨_,_,_,_,by rw[if_pos q5],by rw[if_pos q5]⟩
  rw[if_neg q5,if_neg q5]
  by_cases q6:(k==⟨#[109,101,115,115,97,103,101]⟩)=true
  ·exact .inr ⟨_,_,_,_,by rw[if_pos q6],by rw[if_pos q6]⟩
  rw[if_neg q6,if_neg q6]
  by_cases q7:(k==⟨#[101,110,117,109]⟩)=true
  ·exact .inr ⟨_,_,_,_,by rw[if_pos q7],by rw[if_pos q7]⟩
  rw[if_neg q7,if_neg q7]
  by_cases q8:(k==⟨#[114,101,115,101,114,118,101,100]⟩)=true
  ·exact .inr ⟨_,_,_,_,by rw[if_pos q8],by rw[if_pos q8]⟩
  rw[if_neg q8,if_neg q8]
  exact .inl ⟨rfl,rfl⟩
 ·unfold jw at hv
  unfold zh at hf
  simp only[jt] at hv
  by_cases q0:(k==⟨#[111,112,116,105,111,110]⟩)=true
  ·rw[if_pos q0] at hv hf
   obtain rfl:=zC hv
   obtain rfl:=zC hf
   exact dk h.rd (fun w' hg=>h.er hg)
  rw[if_neg q0] at hv hf
  by_cases q1:(k==⟨#[103,114,111,117,112]⟩)=true
  ·rw[if_pos q1] at hv hf
   obtain rfl:=zC hv
   obtain rfl:=zC hf
   exact dk h.rd (fun w' hg=>h.er hg)
  rw[if_neg q1] at hv hf
  by_cases q2:(k==⟨#[111,112,116,105,111,110,97,108]⟩)=true
  ·rw[if_pos q2] at hv hf
   obtain rfl:=zC hv
   obtain rfl:=zC hf
   exact dk h.rd (fun w' hg=>h.er hg)
  rw[if_neg q2] at hv hf
  by_cases q3:(k==⟨#[114,101,112,101,97,116,101,100]⟩)=true
  ·rw[if_pos q3] at hv hf
   obtain rfl:=zC hv
   obtain rfl:=zC hf
   exact dk h.rd (fun w' hg=>h.er hg)
  rw[if_neg q3] at hv hf
  by_cases q4:(k==⟨#[114,101,113,117,105,114,101,100]⟩)=true
  ·rw[if_pos q4] at hv hf
   obtain rfl:=zC hv
   obtain rfl:=zC hf
   exact dk h.rd (fun w' hg=>h.er hg)
  rw[if_neg q4] at hv hf
  by_cases q5:(k==⟨#[111,110,101,111,102]⟩)=true
  ·rw[if_pos q5] at hv hf
   obtain rfl:=zC hv
   obtain rfl:=zC hf
   exact dk h.rd (fun w' hg=>h.er hg)
  rw[if_neg q5] at hv hf
  by_cases q6:(k==⟨#[109,101,115,115,97,103,101]⟩)=true
  ·rw[if_pos q6] at hv hf
   obtain rfl:=zC hv
   obtain rfl:=zC hf
   exact dk h.rd (fun w' hg=>h.er hg)
  rw[if_neg q6] at hv hf
  by_cases q7:(k==⟨#[101,110,117,109]⟩)=true
  ·rw[if_pos q7] at hv hf
   obtain rfl:=zC hv
   obtain rfl:=zC hf
   exact dk h.rd (fun w' hg=>h.er hg)
  rw[if_neg q7] at hv hf
  by_cases q8:(k==⟨#[114,101,115,101,114,118,101,100]⟩)=true
  ·rw[if_pos q8] at hv hf
   obtain rfl:=zC hv
   obtain rfl:=zC hf
   exact dk h.rd (fun w' hg=>h.er hg)
  rw[if_neg q8] at hv hf
  cases hv
 ·obtain ⟨jC,⟨vf,vo,vm,ve,vr,vg,cm,ce,aZ⟩,hk⟩:=h
  have lM:=hk
  obtain ⟨⟨l1,l2,l3,l4,l5,l6⟩,gD,hn,jS⟩:=hk
  refine ⟨_,_,_,rfl,Em w,?_⟩
  refine (Fu (pm:=p3) (pr:=p2) (bt:=72) (r:=eN (x.os.length:Int) s) (sl:=⟨70,6,vf,x.fs.length,iF x.fs⟩) (so:=⟨9,1,vo,x.os.length,bW x.os⟩) (N1:=fun a x _ _=>x=a.val) rfl aZ (sY.st hN _ _ _) (fun _ _=>fun _ _ _ _ _ h=>h) rfl (qF rfl rfl) (by simp only;omega) (fun P w hw c hc=>?_) (fun w' ll=>(rG (x.os.length:Int) ll.ev ll.rd gD (by omega)).mono fun e w2 h2=>h2.cr)).mono ?_
  ·simp only[List.mem_cons,List.not_mem_nil,or_false] at hc
   rcases hc with rfl|rfl
   ·exact lr P w hw.1
   ·exact gJ P w hw.1
  ·intro e w' hw
   exact xp jC lM (.inr (fun d s' hr=>(mg hr).2 aZ.rd.grown)) (fun d s' hr=>(mg hr).1) hw
noncomputable def yV:Code:=match Tryz.f154.body with
 |some (.seq _ (.seq _ (.seq _ t)))=>t
 |_=>.skip
noncomputable def Mc (t:Code):Code:=match Tryz.f154.body with
 |some (.seq a (.seq b (.seq c _)))=>.seq a (.seq b (.seq c t))
 |_=>.skip
theorem Mb:Tryz.f154.body=some (Mc yV):=rfl
noncomputable def XP:Code:=match yV with
 |.seq a _=>a
 |_=>.skip
noncomputable def Bl:Code:=match yV with
 |.seq _ t=>t
 |_=>.skip
theorem JG:yV=.seq XP Bl:=rfl
noncomputable def XO:Code:=match Bl with
 |.seq a _=>a
 |_=>.skip
noncomputable def Du:Code:=match Bl with
 |.seq _ t=>t
 |_=>.skip
theorem JF:Bl=.seq XO Du:=rfl
noncomputable def XN:Code:=match Du with
 |.seq a _=>a
 |_=>.skip
noncomputable def Qq:Code:=match Du with
 |.seq _ t=>t
 |_=>.skip
theorem JE:Du=.seq XN Qq:=rfl
section
variable {lo b g K op p2 p3 : Nat} {nm : ByteArray} {N : (Nat → Prop) → World → Prop} {V W w : World} {x : Mp} {s : aD} {R : Ending → World → Prop}
theorem Md {k:Nat} (h:mx lo b g K op nm N V W x s w) (hN:aK N) (gJ:∀P w,N P w→aP p2 #[.pointer (some ⟨b,0,none⟩)] 107 P w) (lr:∀P w,N P w→aP p3 #[.pointer (some ⟨g,0,none⟩)] 167 P w) (gw:cZ s.here 4 ⟨#[125]⟩=true) {tm:Array Value} (bU:tm.size=41) (jD:IH tm [(2,.pointer (some ⟨p2,0,none⟩)),(3,.pointer (some ⟨p3,0,none⟩)),(4,.int .i64 (k:Int))])
  (hR:∀e w,IP (mx lo b g K op nm N V W) (Sv g b W) (mI k x s) e w→R e w):Qq.wp Tryz.prog (bodyPost Tryz.prog Tryz.f154 R) ⟨tm,[]⟩ w:=by
 have HR:=aj hR
 have HI:=aj h
 obtain ⟨jC,⟨vf,vo,vm,ve,vr,vg,cm,ce,aZ⟩,hk⟩:=h
 obtain ⟨va,vc,Us⟩:=bN (aZ.bx.own 0 _ rfl)
 simp only at Us
 have b1:w.cell? ⟨g,1,none⟩=some (.slice va x.fs.length vc):=by
  rw[cell_of_row _ _ _ _ _ _ aZ.bx.dJ,←Us]
  rfl
 have c2:w.cell? ⟨p2,0,none⟩=some (.pointer (some ⟨b,0,none⟩)):=by rw[cell_of_row _ _ _ _ _ _ (gJ _ _ aZ.nx.1).1];rfl
 have c3:w.cell? ⟨p3,0,none⟩=some (.pointer (some ⟨g,0,none⟩)):=by rw[cell_of_row _ _ _ _ _ _ (lr _ _ aZ.nx.1).1];rfl
 have hlen:x.fs.length≤20000:=by have:=hk.1.1;omega
 have HN:=aj hN
 have Wb:=aj gw
 obtain ⟨L,hL⟩:∃L,x.fs.length=L:=⟨_,rfl⟩
 have HL:=aj hL
 rw[hL] at b1 hlen
 obtain ⟨u,rfl⟩:=BU bU
 obtain ⟨f2,f3,f4,_⟩:=jD
 replace f2:u 2=.pointer (some ⟨p2,0,none⟩):=zC f2
 replace f3:u 3=.pointer (some ⟨p3,0,none⟩):=zC f3
 replace f4:u 4=.int .i64 (k:Int):=zC f4
 rw[f2,f3,f4]
 clear f2 f3 f4 bU hR aZ hN gJ lr gw hL Us hk jC
 obtain ⟨Q,hQ⟩:∃Q,bodyPost Tryz.prog Tryz.f154 R=Q:=⟨_,rfl⟩
 rw[hQ]
 unfold Qq Du Bl yV
 dsimp only[Tryz.f154]
 by_cases hz:L=k
 ·have pQ:((L:Int)==(k:Int))=true:=by simp[hz]
  have HW:=aj (iM (aa HI).rd)
  have HEq:Hid (mI k x s=.error (cH s)):=by show _=_;unfold mI;rw[if_pos ((aa HL).trans hz)]
  clear hz
  go_wp2_with fail
  refine (aa HW).mono ?_
  rintro e w2 ⟨rfl,bJ⟩
  rw[←hQ]
  refine ⟨rfl,aa HR _ _ ?_⟩
  rw[aa HEq]
  exact ⟨rfl,(aa HI).er (aA b bJ)⟩
 ·have pQ:((L:Int)==(k:Int))=false:=beq_eq_false_iff_ne.2 (by omega)
  have HC:=aj (dr (aa HI).rd (bS (aa HI).rd.grown (by rw[rH (aa Wb)];decide)))
  have HEq:Hid (mI k x s=match bE s with|.error e=>.error e|.ok (_,s4)=>.ok (x,s4)):=by
   show _=_
   unfold mI
   rw[if_neg (by rw[aa HL];exact hz)]
   all_goals (cases bE s<;>rfl)
  clear hz
  go_wp2_with fail
  refine (aa HC).mono ?_
  intro e w2 hw
  rcases hw.split with ⟨y,hr,rfl,hg⟩|⟨_,s4,hr,rfl,h4,hg⟩
  ·rw[←hQ]
   refine ⟨rfl,aa HR _ _ ?_⟩
   rw[aa HEq,hr]
   exact ⟨rfl,(aa HI).er hg⟩
  ·have HE:Hid (R (.returned (.tuple #[])) w2):=by
    refine aa HR _ _ ?_
    rw[aa HEq,hr]
    exact ⟨rfl,(aa HI).step (aa HN) h4 hg (dx hr).jA⟩
   clear hw hr h4 hg HC HEq
   go_wp2
   rw[←hQ]
   go_end0
   exact aa HE
end
end Go.Proofs.YtmlphohdcejniaaGreatDoor
namespace Go.Proofs.YtmlphohdcejniaaGreatDoor
open Go.RowKit
attribute [local go_sem ↓] Go.wp_at_zero Go.wp_at_succ
theorem mx.imp {lo b g K op:Nat}{nm:ByteArray}{N N':(Nat→Prop)→World→Prop}{V W w:World}{x:Mp}{s:aD} (h:mx lo b g K op nm N V W x s w) (hi:∀P w,N P w→N' P w):mx lo b g K op nm N' V W x s w:=by
 obtain ⟨h0,⟨vf,vo,vm,ve,vr,vg,cm,ce,aZ⟩,hk⟩:=h
 exact ⟨h0,⟨vf,vo,vm,ve,vr,vg,cm,ce,aZ.imp (fun h=>⟨hi _ _ h.1,h.2⟩)⟩,hk⟩
theorem mx.join {lo b g K op:Nat}{nm:ByteArray}{N M:(Nat→Prop)→World→Prop}{V W w w':World}{x:Mp}{s:aD} (h:mx lo b g K op nm N V W x s w) (hN:aK N) (hM:aK M) (hb:Below w.heap.size w w') (h1:M (fun k=>w.heap.size≤k) w'):mx lo b g K op nm (fun P w=>N P w∧M P w) V W x s w':=by
 obtain ⟨h0,⟨vf,vo,vm,ve,vr,vg,cm,ce,aZ⟩,hk⟩:=h
 exact ⟨h0,⟨vf,vo,vm,ve,vr,vg,cm,ce,(aZ.join (sY.st hN _ _ _) hM (aZ.rd.up hb) (aA b hb) h1).imp (fun h=>⟨⟨h.1.1,h.2⟩,h.1.2⟩)⟩,hk⟩
theorem IP.imp {σ:Type}{I J:σ→aD→World→Prop}{Er:World→Prop}{r:Except (Int×Int) (σ×aD)}{e:Ending}{w:World} (h:IP I Er r e w) (hi:∀x s,I x s w→J x s w):IP J Er r e w:=by
 unfold IP at *
 cases r with
 |error y=>exact h
 |ok y=>exact ⟨h.1,hi _ _ h.2⟩
section
variable {lo b g K op p2 p3 : Nat} {nm : ByteArray} {N : (Nat → Prop) → World → Prop} {V W w : World} {x : Mp} {s : aD} {R : Ending → World → Prop}
theorem Me {k:Nat} (h:mx lo b g K op nm N V W x s w) (hN:aK N) (hK:K≤16384) (gJ:∀P w,N P w→aP p2 #[.pointer (some ⟨b,0,none⟩)] 107 P w) (lr:∀P w,N P w→aP p3 #[.pointer (some ⟨g,0,none⟩)] 167 P w) {tm:Array Value} (bU:tm.size=41) (jD:IH tm [(2,.pointer (some ⟨p2,0,none⟩)),(3,.pointer (some ⟨p3,0,none⟩)),(4,.int .i64 (k:Int))])
  (hR:∀e w,IP (mx lo b g K op nm N V W) (Sv g b W) (iX k x s) e w→R e w):Du.wp Tryz.prog (bodyPost Tryz.prog Tryz.f154 R) ⟨tm,[]⟩ w:=by
 obtain ⟨f2,f3,f4,_⟩:=jD
 have k2:=kS f2
 have k3:=kS f3
 have k4:=kS f4
 simp only at k2 k3 k4
 rw[JE]
 refine wp_seq ?_
 obtain ⟨T6,hT6⟩:∃T,Qq=T:=⟨_,rfl⟩
 rw[hT6]
 obtain ⟨Qb,pG⟩:∃Q,bodyPost Tryz.prog Tryz.f154 R=Q:=⟨_,rfl⟩
 rw[pG]
 unfold XN Du Bl yV
 dsimp only[Tryz.f154]
 refine iB (z:=4) (N:=41) 2 (by kernel_rfl) (fun k=>k+25) (fun k=>[.pointer (some ⟨b,0,none⟩),.pointer (some ⟨b,0,none⟩),undef,.func (.func 173) #[] #[.pointer (some ⟨p3,0,none⟩),.pointer (some ⟨p2,0,none⟩)]].getD k undef)
  (fun w=>mx lo b g K op nm N V W x s w)
  (fun y w=>∃mb,y=.map (some mb)∧mx lo b g K op nm (fun P w=>N P w∧ij mb (jw b) P w) V W x s w)
  _ w rfl bU (fun i j _ _ e=>by omega) (fun i hi=>by omega) (by kernel_rfl) (by kernel_rfl) ?_ ?_ ?_ ?_
 ·have hb:=(zE w.heap.size w).drew
  exact h.step hN (h.rd.up hb) (aA b hb) (.refl _)
 ·intro k pt w' hk UF iD b9 aW hw
  have dY:w'.cell? ⟨p2,0,none⟩=some (.pointer (some ⟨b,0,none⟩)):=by
   rcases hw with ⟨_,⟨vf,vo,vm,ve,vr,vg,cm,ce,aZ⟩,_⟩|⟨_,mb,_,_,⟨vf,vo,vm,ve,vr,vg,cm,ce,aZ⟩,_⟩
   ·rw[cell_of_row _ _ _ _ _ _ (gJ _ _ aZ.nx.1).1];rfl
   ·rw[cell_of_row _ _ _ _ _ _ (gJ _ _ aZ.nx.1.1).1];rfl
  match k,hk with
  |0,_=>exact aT rfl rfl _ (.tmp 2) rfl ((b9 2 (by intro i hi;omega)).trans k2) (cV _ dY) ⟨rfl,rfl⟩
  |1,_=>exact aT rfl rfl _ (.tmp 2) rfl ((b9 2 (by intro i hi;omega)).trans k2) (cV _ dY) ⟨rfl,rfl⟩
  |2,_=>omega
  |3,_=>exact nI rfl rfl _ _ _ rfl #[] #[.pointer (some ⟨p3,0,none⟩),.pointer (some ⟨p2,0,none⟩)] (by simp) (by simp only[List.map_toArray,List.map_cons,List.map_nil,Act.eval];rw[show pt.getD 3 undef=_ from (b9 3 (by intro i hi;omega)).trans k3,show pt.getD 2 undef=_ from (b9 2 (by intro i hi;omega)).trans k2]) ⟨rfl,rfl⟩
 ·intro _ pt w' iD b9 aW hw
  refine cn rfl rfl 172 (Es w') _ _ rfl #[.pointer (some ⟨b,0,none⟩)] ?_ (Ej w' b) ?_
  ·simp only[List.map_toArray,List.map_cons,List.map_nil,Act.eval]
   rw[show pt.getD 26 undef=_ from aW 1 (by omega) (by kernel_rfl)]
   rfl
  ·rintro e w2 ⟨rfl,hb,cB⟩
   exact .inl ⟨_,rfl,_,rfl,w'.heap.size,rfl,hw.join hN (fT _ _) hb cB⟩
 ·intro pt w' iD b9 dt hw
  rcases hw with ⟨_,mb,hx,hi⟩|⟨hc,_⟩
  rotate_left
  ·omega
  have J5:aK (fun P w=>N P w∧ij mb (jw b) P w):=hN.and (fT _ _)
  have tq:=RL (lo:=lo) (g:=g) (op:=op) (p2:=p2) (p3:=p3) (nm:=nm) (V:=V) (W:=W) J5 hK (fun P w h=>gJ P w h.1) (fun P w h=>lr P w h.1) (fun P w h=>h.2)
  have Ij:=yv tq (fun x s w x' s' hI FL=>vt Cb (fun x s x' s' h=>mo h) (tq.rd x s w hI).grown FL) hi
  refine cn rfl rfl 123 (yp w') _ _ rfl #[.pointer (some ⟨b,0,none⟩),.map (some mb),.func (.func 173) #[] #[.pointer (some ⟨p3,0,none⟩),.pointer (some ⟨p2,0,none⟩)]] ?_ Ij ?_
  ·simp only[List.map_toArray,List.map_cons,List.map_nil,Act.eval]
   rw[show pt.getD 25 undef=_ from dt 0 (by omega) (by omega),show pt.getD 27 undef=_ from hx,show pt.getD 28 undef=_ from dt 3 (by omega) (by omega)]
   rfl
  ·intro e w2 QT
   have Au:∀z,ie (bT zh Ds) x s=z→iX k x s=(match z with|.error e=>.error e|.ok (x2,s2)=>mI k x2 s2):=fun z hz=>by unfold iX;rw[hz];cases z<;>rfl
   rcases QT.split with ⟨y,hr,rfl,he⟩|⟨x3,s3,hr,rfl,Nh⟩
   ·refine .inr ⟨_,rfl,?_⟩
    show Qb (Exit.panic _) _ _
    rw[←pG]
    refine ⟨rfl,hR _ _ ?_⟩
    rw[Au _ hr]
    exact ⟨rfl,he⟩
   ·refine .inl ⟨_,rfl,?_⟩
    show T6.wp Tryz.prog Qb ⟨pt.setIfInBounds 29 (.tuple #[]),[]⟩ w2
    rw[←hT6,←pG]
    have gw:=(lR (fun x s x' s' h=>(mR Cb (fun x s x' s' h=>mo h) h).1.jA) hr).2
    refine Md (p2:=p2) (p3:=p3) (k:=k) Nh J5 (fun P w h=>gJ P w h.1) (fun P w h=>lr P w h.1) gw (by rw[Array.size_setIfInBounds];exact iD) ⟨?_,?_,?_,trivial⟩ ?_
    ·exact nT (by rw[Array.size_setIfInBounds,iD];omega) (by rw[aB (by omega)];exact (b9 2 (by intro i hi;omega)).trans k2)
    ·exact nT (by rw[Array.size_setIfInBounds,iD];omega) (by rw[aB (by omega)];exact (b9 3 (by intro i hi;omega)).trans k3)
    ·exact nT (by rw[Array.size_setIfInBounds,iD];omega) (by rw[aB (by omega)];exact (b9 4 (by intro i hi;omega)).trans k4)
    ·intro e w3 j7
     refine hR e w3 ?_
     rw[Au _ hr]
     exact j7.imp (fun x s h=>h.imp (fun P w h=>h.1))
theorem Mf {k:Nat} (h:mx lo b g K op nm N V W x s w) (hN:aK N) (hK:K≤16384) (gJ:∀P w,N P w→aP p2 #[.pointer (some ⟨b,0,none⟩)] 107 P w) (lr:∀P w,N P w→aP p3 #[.pointer (some ⟨g,0,none⟩)] 167 P w) (hkf:x.fs.length=k) {tm:Array Value} (bU:tm.size=41) (jD:IH tm [(2,.pointer (some ⟨p2,0,none⟩)),(3,.pointer (some ⟨p3,0,none⟩))])
  (hR:∀e w,IP (mx lo b g K op nm N V W) (Sv g b W) (iX k x s) e w→R e w):Bl.wp Tryz.prog (bodyPost Tryz.prog Tryz.f154 R) ⟨tm,[]⟩ w:=by
 have HI:=aj h
 have HN:=aj hN
 have oB:=aj gJ
 have zu:=aj lr
 have HR:=aj hR
 have HK:=aj hK
 obtain ⟨jC,⟨vf,vo,vm,ve,vr,vg,cm,ce,aZ⟩,hk⟩:=h
 obtain ⟨va,vc,Us⟩:=bN (aZ.bx.own 0 _ rfl)
 simp only at Us
 have b1:w.cell? ⟨g,1,none⟩=some (.slice va k vc):=by
  rw[cell_of_row _ _ _ _ _ _ aZ.bx.dJ,←hkf,←Us]
  rfl
 have c3:w.cell? ⟨p3,0,none⟩=some (.pointer (some ⟨g,0,none⟩)):=by rw[cell_of_row _ _ _ _ _ _ (lr _ _ aZ.nx.1).1];rfl
 have hkb:k≤20000:=by have:=hk.1.1;omega
 obtain ⟨u,rfl⟩:=BU bU
 obtain ⟨f2,f3,_⟩:=jD
 replace f2:u 2=.pointer (some ⟨p2,0,none⟩):=zC f2
 replace f3:u 3=.pointer (some ⟨p3,0,none⟩):=zC f3
 rw[f2,f3,JF]
 clear f2 f3 bU hR aZ hN gJ lr Us hk jC hkf hK
 obtain ⟨Q,hQ⟩:∃Q,bodyPost Tryz.prog Tryz.f154 R=Q:=⟨_,rfl⟩
 obtain ⟨T5,Zd⟩:∃T,Du=T:=⟨_,rfl⟩
 rw[hQ,Zd]
 unfold XO Bl yV
 dsimp only[Tryz.f154]
 go_wp2
 rw[←hQ,←Zd]
 exact Me (aa HI) (aa HN) (aa HK) (aa oB) (aa zu) rfl ⟨rfl,rfl,rfl,trivial⟩ (aa HR)
theorem Mg (h:mx lo b g K op nm N V W x s w) (hN:aK N) (hK:K≤16384) (gJ:∀P w,N P w→aP p2 #[.pointer (some ⟨b,0,none⟩)] 107 P w) (lr:∀P w,N P w→aP p3 #[.pointer (some ⟨g,0,none⟩)] 167 P w) {iv:Array Value} (qx:iv.size=41) (jD:IH iv [(2,.pointer (some ⟨p2,0,none⟩)),(3,.pointer (some ⟨p3,0,none⟩))])
  (hR:∀e w,IP (mx lo b g K op nm N V W) (Sv g b W) (match cy s with|.error e=>.error e|.ok (a,s2)=>iX x.fs.length { x with os:=x.os++[a] } s2) e w→R e w):yV.wp Tryz.prog (bodyPost Tryz.prog Tryz.f154 R) ⟨iv,[]⟩ w:=by
 obtain ⟨f2,f3,_⟩:=jD
 have k2:=kS f2
 have k3:=kS f3
 simp only at k2 k3
 obtain ⟨jC,⟨vf,vo,vm,ve,vr,vg,cm,ce,aZ⟩,hk⟩:=h
 have lM:=hk
 obtain ⟨⟨l1,l2,l3,l4,l5,l6⟩,gD,hn,jS⟩:=hk
 have hS:=sY.st (g:=g) hN x cm ce
 have hi:(Gx x vf vo vm ve vr vg cm ce)[1]?=some ⟨9,1,vo,x.os.length,bW x.os⟩:=rfl
 obtain ⟨va,vn,vc,hv⟩:=aL (aZ.bx.own 1 _ hi)
 simp only at hv
 obtain ⟨ei,lO,nv,rm,fx⟩:=BZ (sl:=⟨9,1,vo,x.os.length,bW x.os⟩) rfl rfl
 have cB:∀P w,sY g N x cm ce P w→∀c ∈ ([(p3,#[.pointer (some ⟨g,0,none⟩)],167),(p2,#[.pointer (some ⟨b,0,none⟩)],107)]:List (Nat×Array Value×TypeId)),aP c.1 c.2.1 c.2.2 P w:=fun P w hw c hc=>by
  simp only[List.mem_cons,List.not_mem_nil,or_false] at hc
  rcases hc with rfl|rfl
  ·exact lr P w hw.1
  ·exact gJ P w hw.1
 have cq:=Ph.base (lo:=lo) (b:=b) (g:=g) (T:=64) (nm:=nm) (V:=V) (W:=W) (s:=s) (r:=cy s) (N1:=fun (a:ByteArray) x _ _=>x=Value.string a) cB hi
 have iS:∀(a:ByteArray) (x:Value),aK (fun (_:Nat→Prop) (_:World)=>x=Value.string a):=fun _ _=>fun _ _ _ _ _ h=>h
 have hd:=aZ.up hS (zE w.heap.size w).drew
 rw[JG]
 refine wp_seq ?_
 obtain ⟨T4,hT4⟩:∃T,Bl=T:=⟨_,rfl⟩
 rw[hT4]
 obtain ⟨Qb,pG⟩:∃Q,bodyPost Tryz.prog Tryz.f154 R=Q:=⟨_,rfl⟩
 rw[pG]
 unfold XP yV
 dsimp only[Tryz.f154]
 refine cY (z:=11) (N:=41) (c:=6) (by kernel_rfl) (fun k=>k+9) (fun k=>[.pointer (some ⟨g,0,none⟩),.pointer (some ⟨g,0,none⟩),.pointer (some ⟨g,0,none⟩),.pointer (some ⟨g,2,none⟩),vo,.pointer (some ⟨b,0,none⟩),undef,undef,undef,.pointer (some ⟨g,0,none⟩),.pointer (some ⟨g,2,none⟩)].getD k undef) (Ph lo b g 64 nm (Gx x vf vo vm ve vr vg cm ce) (sY g N x cm ce) V W s ⟨9,1,vo,x.os.length,bW x.os⟩ (cy s) (fun a x _ _=>x=Value.string a)) _ w rfl qx (fun i j _ _ e=>by omega) (fun i hi=>by omega) (by kernel_rfl) (by omega) (by kernel_rfl) (by kernel_rfl) (by kernel_rfl) hd ?_ ?_ ?_ ?_ ?_
 ·intro k tm w hk hq bU b9 aW bC
  obtain ⟨ph,y,bC⟩:=bC
  have hB:=cq ph y w bC
  match k,hk with
  |0,_=>exact aT rfl rfl _ (.tmp 3) rfl ((b9 3 (by intro i hi;omega)).trans k3) (cD w (hB.cell (List.mem_cons_self ..) rfl)) ⟨rfl,rfl⟩
  |1,_=>exact aT rfl rfl _ (.tmp 3) rfl ((b9 3 (by intro i hi;omega)).trans k3) (cD w (hB.cell (List.mem_cons_self ..) rfl)) ⟨rfl,rfl⟩
  |2,_=>exact aY rfl rfl (.tmp 10) rfl (aW 1 (by omega) (by kernel_rfl)) ⟨rfl,rfl⟩
  |3,_=>exact bK rfl rfl _ (.tmp 11) _ rfl (aW 2 (by omega) (by kernel_rfl)) (B0 w) ⟨rfl,rfl⟩
  |4,_=>exact aT rfl rfl _ (.tmp 12) rfl (aW 3 (by omega) (by kernel_rfl)) (by rw[hv];exact vE w (by rw[←hv];exact hB.row hi)) ⟨rfl,rfl⟩
  |5,_=>exact aT rfl rfl _ (.tmp 2) rfl ((b9 2 (by intro i hi;omega)).trans k2) (cV w (hB.cell (zF _ (List.mem_cons_self ..)) rfl)) ⟨rfl,rfl⟩
  |6,_=>omega
  |7,_=>omega
  |8,_=>omega
  |9,_=>exact aY rfl rfl (.tmp 9) rfl (aW 0 (by omega) (by kernel_rfl)) ⟨rfl,rfl⟩
  |10,_=>exact bK rfl rfl _ (.tmp 18) _ rfl (aW 9 (by omega) (by kernel_rfl)) (B0 w) ⟨rfl,rfl⟩
 ·intro tm w bU b9 aW bC
  have J4:Ap lo b g 64 nm (Gx x vf vo vm ve vr vg cm ce) (sY g N x cm ce) V W s w:=bC
  refine cn rfl rfl 122 (Ou w) _ _ rfl #[.pointer (some ⟨b,0,none⟩)] ?_ ((kG J4.rd gD).mono fun e w2 h2=>h2.cr) ?_
  ·simp only[List.map_toArray,List.map_cons,List.map_nil,Act.eval]
   rw[show tm.getD 14 undef=_ from aW 5 (by omega) (by kernel_rfl)]
   rfl
  ·intro e w' j7
   rcases Ph.call hS iS bC j7 with ⟨y,rfl,h1⟩|⟨y,hr,rfl,hs⟩
   ·exact .inl ⟨y,rfl,y,rfl,h1⟩
   ·exact .inr ⟨_,rfl,by show Qb (Exit.panic _) _ _;rw[←pG];exact ⟨rfl,hR _ _ (by rw[hr];exact ⟨rfl,hs⟩)⟩⟩
 ·intro tm w y bU hx bC
  obtain ⟨a,s',hr,eT,J4⟩:=id bC
  obtain ⟨f1,f2,f3⟩:=fx a y (fun _=>True) w eT
  exact jQ rfl rfl _ _ _ rfl #[(0,y)] (by simp only[List.map_toArray,List.map_cons,List.map_nil,Act.eval];rw[show tm.getD 15 undef=y from hx]) (f3 w) ⟨_,rfl,Ph.bs hS iS bC⟩
 ·intro tm w y bU aW hy bC
  obtain ⟨a,s',z,gy,hr,rfl,rV,eT,J4⟩:=id bC
  obtain ⟨f1,f2,f3⟩:=fx a z (fun _=>True) w eT
  have hl:=J4.bx.lt
  refine bX w rfl rfl (.tmp 13) (.tmp 16) 22 rfl (g+1) 9 1 16 lO ei nv vo x.os.length (bW x.os) (aW 4 (by omega) (by kernel_rfl)) (J4.bx.own 1 _ hi) ⟨gy,0,none⟩ 1 1 z.cells.toList hy (by rw[Array.length_toList,f1]) (dL rV) f2 (by unfold maxLen;omega) (by omega) (by omega) ?_
  intro v' w' h1 h2 h3
  exact ⟨v',rfl,Ph.app hr J4 h2 h1 h3⟩
 ·intro tm w y bU b9 dt hy bC
  have hB:=cq 3 y w bC
  obtain ⟨a,s',z,w2,hr,h1,h2,h3,h4⟩:=id bC
  obtain ⟨ya,yn,yc,rfl⟩:=aL h3
  refine dM rfl rfl _ (.tmp 19) (.tmp 17) rfl (dt 10 (by omega) (by omega)) hy (Ba w (hB.row hi) (hB.frozen _)) ?_
  show T4.wp Tryz.prog Qb ⟨tm,[]⟩ _
  rw[←hT4,←pG]
  rcases CP.plain wN (Ph.last hS iS hi bC) with ⟨y',y8,he,_⟩|⟨a',s2,v2,y8,_,gS⟩
  ·rw[hr] at y8;cases y8
  ·have Ig:=lu y8
   have cw:=Ig.lt (nG y8 aZ.rd.grown)
   refine Mf (x:={ x with os:=x.os++[a'] }) (s:=s2) (k:=x.fs.length) ⟨jC,⟨vf,v2,vm,ve,vr,vg,cm,ce,gS⟩,⟨⟨by simp only;omega,by simp only[zK,List.length_singleton];omega,by simp only;omega,by simp only;omega,by simp only;omega,by simp only;omega⟩,Ig.jA.sm gD,by omega,Ig.jA.op.trans jS⟩⟩ hN hK gJ lr rfl bU ⟨?_,?_,trivial⟩ ?_
   ·exact nT (by rw[bU];omega) ((b9 2 (by intro i hi;omega)).trans k2)
   ·exact nT (by rw[bU];omega) ((b9 3 (by intro i hi;omega)).trans k3)
   ·intro e w3 QT
    refine hR e w3 ?_
    rw[y8]
    exact QT
end
end Go.Proofs.YtmlphohdcejniaaGreatDoor

import Derived.Test.YtjophoclfccmcaaGreatDoorM49
import Derived.Test.YtjophoclfccmcaaGreatDoorM50
import Derived.Lib.LaidTab
import Derived.Lib.LaidU8
set_option maxHeartbeats 4000000
set_option maxRecDepth 100000
namespace Go.Proofs.YtjophoclfccmcaaGreatDoor
open Go.RowKit
attribute [local go_sem ↓] Go.wp_at_zero Go.wp_at_succ
theorem dZ.upB {W w:World}{v:Value}{l:List Tk} (h:dZ W W.heap.size W.heap.size v l) (hb:Below W.heap.size W w):dZ w w.heap.size w.heap.size v l:=by
 obtain ⟨a',c',rfl,k1,k2,k3⟩:=h
 refine ⟨a',c',rfl,k1,k2,fun hp=>?_⟩
 obtain ⟨g',BA,rfl,k4,k5,k6⟩:=k3 hp
 have hs:=hb.size
 refine ⟨g',BA,rfl,by omega,by omega,fun j t ht=>?_⟩
 obtain ⟨x1,x2,x3⟩:=k6 j t ht
 exact ⟨(hb.cell (p:=⟨g',BA+j*3,none⟩) k4).trans x1,(hb.cell (p:=⟨g',BA+j*3+1,none⟩) k4).trans x2,(hb.cell (p:=⟨g',BA+j*3+2,none⟩) k4).trans x3⟩
structure X6 (x y z n:Nat) (A B C:Array Value) (w:World):Prop where
 a:∀j,w.cell? ⟨x,j,none⟩=A[j]?
 b:∀j,w.cell? ⟨x+1,j,none⟩=B[j]?
 c:∀j,w.cell? ⟨y,j,none⟩=C[j]?
 d:∀j,w.cell? ⟨y+1,j,none⟩=B[j]?
 c0:w.cell? ⟨z,n*3,none⟩=some (.int .i64 9)
 c1:w.cell? ⟨z,n*3+1,none⟩=some (.int .i64 7)
 c2:w.cell? ⟨z,n*3+2,none⟩=some (.string ⟨#[109,97,114,107]⟩)
 d0:w.cell? ⟨z,(n+1)*3,none⟩=some (.int .i64 9)
 d1:w.cell? ⟨z,(n+1)*3+1,none⟩=some (.int .i64 7)
 d2:w.cell? ⟨z,(n+1)*3+2,none⟩=some (.string ⟨#[109,97,114,107]⟩)
theorem X6.up {x y z n:Nat}{A B C:Array Value}{w w':World} (h:X6 x y z n A B C w) (hb:Below w.heap.size w w') (h1:x+1<w.heap.size) (h2:y+1<w.heap.size) (h3:z<w.heap.size):X6 x y z n A B C w':=by
 have q:∀g j,g<w.heap.size→w'.cell? ⟨g,j,none⟩=w.cell? ⟨g,j,none⟩:=fun g j hg=>hb.cell (p:=⟨g,j,none⟩) hg
 exact ⟨fun j=>(q x j (by omega)).trans (h.a j),fun j=>(q _ j h1).trans (h.b j),fun j=>(q y j (by omega)).trans (h.c j),fun j=>(q _ j h2).trans (h.d j),(q z _ h3).trans h.c0,(q z _ h3).trans h.c1,(q z _ h3).trans h.c2,(q z _ h3).trans h.d0,(q z _ h3).trans h.d1,(q z _ h3).trans h.d2⟩
theorem Fp {P:Program}{ops:Array Oper}{Q:Exit→Act→World→Prop}{o:Oper}{a:Act}{w:World}{K:Act→World→Prop}{E:Prop} (x:Tmp) (hx:o.dst=some x) (hw:Region.wanted o (yielded ops a.tmps)=true) (f:FuncId) (qJ:∀vs,(callFunc f vs).run P w=.ok (.enter f vs) w) (args:Array Operand) (Lv:Array TypeId)
  (ho:o.op=.call { callee:=.value (.func f),args:=args,argTypes:=Lv }) (vs:Array Value) (hv:args.map a.eval=vs) {R:Ending→World→Prop} (hc:Calls P f vs w R) (hK:∀e w',R e w'→∃v,e=.returned v∧K (a.put (some x) v) w') :
  if Region.wanted o (yielded ops a.tmps)=true then Oper.wp P o a w K Q else E:=by
 rw[if_pos hw]
 have h2:Oper.wp P o a w K Q=o.upon P a K Q (.ok (.enter f vs) w):=by
  unfold Oper.wp
  simp[execOp,ho,resolve,invoke,←hv,Act.eval,Deferred.ofValue,qJ]
 rw[h2,Oper.upon_enter]
 refine hc.mono ?_
 intro e w' hr
 obtain ⟨v,rfl,hk⟩:=hK e w' hr
 rw[hx]
 exact hk
theorem SF (w:World) (vs:Array Value):(callFunc 10 vs).run Tryz.prog w=.ok (.enter 10 vs) w:=by
 have hn:¬Tryz.f10.name = "runtime.NumGoroutine" := by decide +kernel
 have hb:Tryz.f10.body.isSome=true:=by kernel_rfl
 obtain ⟨c,hc⟩:=zG hb
 simp[callFunc,Tryz.func10,hn,hc]
theorem EC {B:Nat}{W w:World} (h:Below B W w):Below B W w.drew:=⟨h.os,h.tape,h.output,h.size,h.block⟩
theorem YU (w:World) (n:Nat) (hn:n≤4398046510976):(Instr.makeSlice 36 (.int .i64 ((n:Int)+2)) (.int .i64 ((n:Int)+2))).run Tryz.prog w=.ok (.slice (some ⟨w.heap.size,0,none⟩) (n+2) (n+2)) (w.alloc (.cells (madeCells #[.int .i64 0,.int .i64 0,.string ⟨#[]⟩] ((n+2)*3)) 38)):=by
 obtain ⟨k0,rB,Xr,U8,Xq⟩:=info_parts Tryz.ru
 have h:=run_make (P:=Tryz.prog) w 36 38 k0 (.agg #[.int .i64 0,.int .i64 0,.string ⟨#[]⟩]) Tryz.underlying36 rB Xr .i64 .i64 ((n:Int)+2) ((n:Int)+2) (by omega) (Int.le_refl _) (by rw[Xq];omega) (by omega)
 rw[show ((n:Int)+2).toNat=n+2 by omega,U8] at h
 exact h
theorem NB (w:World) (n:Nat) (hn:n≤4398046510976):(w.alloc (.cells (madeCells #[.int .i64 0,.int .i64 0,.string ⟨#[]⟩] ((n+2)*3)) 38)).ownsRow w.heap.size 38 3 (.slice (some ⟨w.heap.size,0,none⟩) (n+2) (n+2)) (n+2) (madeCells #[.int .i64 0,.int .i64 0,.string ⟨#[]⟩] ((n+2)*3)).toList:=by
 refine ⟨by rw[Array.length_toList,size_madeCells],.inr ⟨w.heap.size,n+2,_,rfl,zD _,aH _ _,zD _,by unfold maxLen;omega,size_madeCells _ _,?_⟩⟩
 rw[List.take_of_length_le (by rw[Array.length_toList,size_madeCells];exact zD _)]
theorem C8 {W:World} (hF:nG W) (hE:gU W) (hM:oO W) {v:Value}{ls:List (List Tk)} (h:tW W v ls) (hl:ls.length≤5864062014634∧∀l ∈ ls,l.length≤4398046510976∧∀t ∈ l,t.text.size≤140737488351232) (ID:Calls Tryz.prog 7 #[] W (pT W)):Calls Tryz.prog 4 #[v] W (pT W):=by
 obtain ⟨a,c,rfl,hm,h3⟩:=id h
 have H3:=ab h3
 have HF:=ab hF
 have HE:=ab hE
 have HM:=ab hM
 have HK:=ab ID
 have tj:=ab hl.2
 have hl1:=hl.1
 clear hm h3 h hF hE hM ID hl
 go_enter Tryz.func4,Tryz.ntmps4
 go_wp2_with fail
 refine (aa HK).mono ?_
 rintro e w1 ⟨rfl,bQ⟩
 have ko:=ab bQ
 clear bQ HK
 go_wp2
 go_loopg [3] ls.length (fun gk v3 wr=>∃(k:Nat),v3=.int .i64 (k:Int)∧gk=ls.length-k∧k≤ls.length∧Hid (Below W.heap.size W wr))
 case atStart=>exact ⟨0,rfl,rfl,by omega,ko⟩
 case round =>
  obtain ⟨k,rfl,eG,hk,HB⟩:=hrel
  have jw:=ab eG
  clear eG
  by_cases dB:k<ls.length
  ·obtain ⟨g,off,rfl,hg,hc⟩:=aa H3 (by omega)
   obtain ⟨l,rA⟩:∃l,ls[k]?=some l:=⟨_,List.getElem?_eq_getElem dB⟩
   obtain ⟨u,hcu,Tu⟩:=hc k l rA
   obtain ⟨hn,CG⟩:=aa tj l (List.mem_of_getElem? rA)
   have E3:=ab Tu
   have HTS:=ab CG
   obtain ⟨p,cp,rfl,-,-,-⟩:=Tu
   have HcW:=ab hcu
   have dD:wr.cell? ⟨g,off+k,none⟩=some (.slice p l.length cp):=((aa HB).cell (p:=⟨g,off+k,none⟩) hg).trans hcu
   have hmk:=YU wr l.length hn
   have cL:=NB wr l.length hn
   obtain ⟨w7,Ks⟩:∃x,x=wr.alloc (.cells (madeCells #[.int .i64 0,.int .i64 0,.string ⟨#[]⟩] ((l.length+2)*3)) 38):=⟨_,rfl⟩
   have hb7:Below W.heap.size W w7:=by rw[Ks];exact (aa HB).alloc (aa HB).size _
   have VK:w7.cell? ⟨g,off+k,none⟩=some (.slice p l.length cp):=(hb7.cell (p:=⟨g,off+k,none⟩) hg).trans hcu
   rw[←Ks] at hmk cL
   obtain ⟨w8,hcp,Tv,hb8,hs8⟩:=copied cL rfl (aa E3) hb7 (aa HB).size 3
   rw[show Nat.min l.length (l.length+2)=l.length from Nat.min_eq_left (by omega)] at hcp
   have WS:=ab Tv
   have HB8:=ab hb8
   clear hc rA hcu CG cL Tv hb7 hb8
   have hs7:w7.heap.size=wr.heap.size+1:=by rw[Ks,zJ]
   have Vr:=(aa HB).size
   clear Ks
   go_upto_region 9 with fail
   obtain ⟨gl,VE⟩:∃x,x=wr.heap.size:=⟨_,rfl⟩
   rw[←VE] at WS hs7 Vr ⊢
   clear VE hmk hcp dD VK HB
   have hi0:(l++[iH,iH])[l.length]?=some iH:=by simp
   obtain ⟨c0,c1,c2⟩:=(aa WS).cell hi0
   have f0:=(aa WS).frozenAt (l.length*3)
   have f1:=(aa WS).frozenAt (l.length*3+1)
   have f2:=(aa WS).frozenAt (l.length*3+2)
   have j0:(0:Int)≤(l.length:Int):=zH _
   have j1:(l.length:Int)<(l.length:Int)+2:=by omega
   clear hi0
   go_upto_region 10 with fail
   obtain ⟨w9,Ly⟩:∃x,x=((w8.setCell ⟨gl,l.length*3,none⟩ (.int .i64 9)).setCell ⟨gl,l.length*3+1,none⟩ (.int .i64 7)).setCell ⟨gl,l.length*3+2,none⟩ (.string ⟨#[109,97,114,107]⟩):=⟨_,rfl⟩
   obtain ⟨hR9,tN⟩:=(aa WS).set l.length rj
   have Z6:eS gl w9 (.slice (some ⟨gl,0,none⟩) (l.length+2) (l.length+2)) (l++[rj,iH]):=by
    rw[Ly]
    have e:(l++[iH,iH]).set l.length rj=l++[rj,iH]:=by simp
    rw[←e]
    exact hR9
   have ZN:w8.grownBy w9 (some gl):=by rw[Ly];exact tN
   have LR:=ab ((aa HB8).grown ZN (aa HB8).size (fun q e=>by cases e;exact Vr))
   have S0:=ab Z6
   rw[←Ly]
   clear c0 c1 c2 f0 f1 f2 WS HB8 Ly hR9 Z6 tN ZN hs8
   have XB:(l++[rj,iH])[l.length]?=some rj:=by simp
   have ui:(l++[rj,iH])[l.length+1]?=some iH:=by simp
   obtain ⟨c0,c1,c2⟩:=(aa S0).cell XB
   obtain ⟨d0,d1,d2⟩:=(aa S0).cell ui
   simp only[rj] at c0 c1 c2
   have f0:=(aa S0).frozenAt ((l.length+1)*3)
   have f1:=(aa S0).frozenAt ((l.length+1)*3+1)
   have f2:=(aa S0).frozenAt ((l.length+1)*3+2)
   have j2:(0:Int)≤(l.length:Int)+1:=by omega
   have j3:(l.length:Int)+1<(l.length:Int)+2:=by omega
   have j4:((l.length:Int)+1).toNat=l.length+1:=by omega
   clear XB ui
   go_upto_region 11 with fail
   obtain ⟨wA,hwA⟩:∃x,x=((w9.setCell ⟨gl,(l.length+1)*3,none⟩ (.int .i64 9)).setCell ⟨gl,(l.length+1)*3+1,none⟩ (.int .i64 7)).setCell ⟨gl,(l.length+1)*3+2,none⟩ (.string ⟨#[109,97,114,107]⟩):=⟨_,rfl⟩
   obtain ⟨TK,hgA⟩:=(aa S0).set (l.length+1) rj
   have Z5:eS gl wA (.slice (some ⟨gl,0,none⟩) (l.length+2) (l.length+2)) (l++[rj,rj]):=by
    rw[hwA]
    have e:(l++[rj,iH]).set (l.length+1) rj=l++[rj,rj]:=by simp
    rw[←e]
    exact TK
   have ZM:w9.grownBy wA (some gl):=by rw[hwA];exact hgA
   have Yg:=ab ((aa LR).grown ZM (aa LR).size (fun q e=>by cases e;exact Vr))
   have GY:=ab Z5
   rw[←hwA]
   clear c0 c1 c2 d0 d1 d2 f0 f1 f2 S0 LR hwA TK Z5 hgA ZM j2 j3 j4 hs7
   have j5:(l.length:Int)≤(l.length:Int)+2:=by omega
   go_wp2_with fail
   refine (tG ((aa HF).up (aa Yg)) ((aa HE).up (aa Yg)) ((aa HM).up (aa Yg) (aa HM).1) (ts:=l) ⟨_,_,rfl,by omega,by unfold maxLen;omega,fun _=>⟨gl,0,rfl,(aa GY).lt.2,Nat.ne_of_lt (aa GY).lt.2,fun i t ht=>by
    have hi:(l++[rj,rj])[i]?=some t:=by rw[List.getElem?_append_left (zB ht).1];exact ht
    simpa using (aa GY).cell hi⟩⟩ (fun t ht=>by have:=aa HTS t ht;omega) (by omega)).mono ?_
   intro e w2 hr
   obtain ⟨ia,il,ic,ma,ml,mc,ea,el,ec,rfl,Xx,br⟩:=qZ hr
   obtain ⟨fl,XF⟩:∃x,KT (jg l)=x:=⟨_,rfl⟩
   obtain ⟨er,her⟩:∃x,Sy (jg l)=x:=⟨_,rfl⟩
   obtain ⟨sp,hsp⟩:∃x,QX (jg l)=x:=⟨_,rfl⟩
   rw[XF] at Xx
   rw[XF,her,hsp]
   have S5:=ab XF
   have HEr:=ab her
   have HSp:=ab hsp
   have Gb:=(aa Yg).trans (br.mono (aa Yg).size)
   have hT:=kI Gb #[.string fl.iT,.slice ia il ic,.slice ma ml mc,.slice ea el ec] #[.int .i64 er,.int .i64 0,.int .i64 sp,.string ⟨#[]⟩] 27 30
   have hbS:=(kI (zE w2.heap.size w2) #[.string fl.iT,.slice ia il ic,.slice ma ml mc,.slice ea el ec] #[.int .i64 er,.int .i64 0,.int .i64 sp,.string ⟨#[]⟩] 27 30).bl
   have HN:=ab (Xx.up hbS)
   have zR:=ab (((aa GY).up br).up hbS)
   have HT:=ab hT
   have VL:∀o o',((w2.alloc o).alloc o').cell? ⟨g,off+k,none⟩=some (.slice p l.length cp):=fun o o'=>(World.cell?_alloc_lt _ _ _ (by rw[zJ];show g<_;have:=Gb.size;omega)).trans ((World.cell?_alloc_lt _ _ _ (by show g<_;have:=Gb.size;omega)).trans ((Gb.cell (p:=⟨g,off+k,none⟩) hg).trans (aa HcW)))
   clear hr Xx br Gb hT hbS XF her hsp GY Yg j5 j1
   go_wp2_with fail
   refine (CV ((aa E3).upB (aa HT).bl) (fun t ht=>by have:=aa HTS t ht;omega) (by omega)).mono ?_
   intro e w4 hr
   obtain ⟨NY,NV,NX,NC,Nj,Nz,Pc,O',Pb,rfl,Vy,fj⟩:=qZ hr
   rw[aa S5] at Vy
   rw[aa S5,aa HEr,aa HSp]
   have LG:=(aa HT).up fj
   have EM:=ab ((aa HN).up fj)
   have aaS:=ab Vy
   have X4:∀o o' j,((w4.alloc o).alloc o').cell? ⟨w2.heap.size,j,none⟩=(#[.string fl.iT,.slice ia il ic,.slice ma ml mc,.slice ea el ec]:Array Value)[j]?:=fun o o' j=>(World.cell?_alloc_lt _ _ _ (by rw[zJ];have:=LG.lx;show w2.heap.size<_;omega)).trans ((World.cell?_alloc_lt _ _ _ LG.lx).trans (LG.x j))
   have Y4:∀o o' j,((w4.alloc o).alloc o').cell? ⟨w2.heap.size+1,j,none⟩=(#[.int .i64 er,.int .i64 0,.int .i64 sp,.string ⟨#[]⟩]:Array Value)[j]?:=fun o o' j=>(World.cell?_alloc_lt _ _ _ (by rw[zJ];have:=LG.ly;show w2.heap.size+1<_;omega)).trans ((World.cell?_alloc_lt _ _ _ LG.ly).trans (LG.y j))
   have hTT:=kI LG.bl #[.string fl.iT,.slice NY NV NX,.slice NC Nj Nz,.slice Pc O' Pb] #[.int .i64 er,.int .i64 0,.int .i64 sp,.string ⟨#[]⟩] 27 30
   have TJ:=(kI (zE w4.heap.size w4) #[.string fl.iT,.slice NY NV NX,.slice NC Nj Nz,.slice Pc O' Pb] #[.int .i64 er,.int .i64 0,.int .i64 sp,.string ⟨#[]⟩] 27 30).bl
   have LN:=ab hTT
   have zQ:=ab (((aa zR).up fj).up TJ)
   have h24:w2.heap.size+1<w4.heap.size:=LG.ly
   clear hr Vy fj LG HT HN VL zR hTT
   go_upto_region 13 with fail
   obtain ⟨wB,hwB⟩:∃x,x=(w4.alloc (.cells #[.string fl.iT,.slice NY NV NX,.slice NC Nj Nz,.slice Pc O' Pb] 27)).alloc (.cells #[.int .i64 er,.int .i64 0,.int .i64 sp,.string ⟨#[]⟩] 30):=⟨_,rfl⟩
   have hT:(fun w=>X6 w2.heap.size w4.heap.size gl l.length #[.string fl.iT,.slice ia il ic,.slice ma ml mc,.slice ea el ec] #[.int .i64 er,.int .i64 0,.int .i64 sp,.string ⟨#[]⟩] #[.string fl.iT,.slice NY NV NX,.slice NC Nj Nz,.slice Pc O' Pb] w) wB.drew:=by
    rw[hwB]
    have XB:(l++[rj,rj])[l.length]?=some rj:=by simp
    have ui:(l++[rj,rj])[l.length+1]?=some rj:=by simp
    obtain ⟨c0,c1,c2⟩:=(aa zQ).cell XB
    obtain ⟨d0,d1,d2⟩:=(aa zQ).cell ui
    exact ⟨fun j=>X4 _ _ j,fun j=>Y4 _ _ j,fun j=>(aa LN).x j,fun j=>(aa LN).y j,c0,c1,c2,d0,d1,d2⟩
   have HNa:=ab ((aa EM).up TJ)
   have HNb:=ab ((aa aaS).up TJ)
   rw[←hwB] at HNa HNb zQ LN ⊢
   have abt:IntKind.i64.wrap ((l.length:Int)+1)=(l.length:Int)+1:=by first|(rw[IntKind.wrap_i64];omega)|(rw[IntKind.wrap_i64];unfold wrap64;omega)|(simp[IntKind.wrap,IntKind.bits,IntKind.signed];omega)
   have j1:(l.length:Int)<(l.length:Int)+2:=by omega
   have j2:(0:Int)≤(l.length:Int)+1:=by omega
   have j3:(l.length:Int)+1<(l.length:Int)+2:=by omega
   have j4:((l.length:Int)+1).toNat=l.length+1:=by omega
   clear X4 Y4 TJ EM aaS hwB
   refine wp_region_any (by kernel_rfl) (dr (z:=37) (T:=fun w=>X6 w2.heap.size w4.heap.size gl l.length #[.string fl.iT,.slice ia il ic,.slice ma ml mc,.slice ea el ec] #[.int .i64 er,.int .i64 0,.int .i64 sp,.string ⟨#[]⟩] #[.string fl.iT,.slice NY NV NX,.slice NC Nj Nz,.slice Pc O' Pb] w) _ _ _ _ ?_)
   try (change dI _ _ _ _ _ _ _ _ _ (World.drew _))
   refine aB 0 (.agg #[.int .i64 er,.int .i64 0,.int .i64 sp,.string ⟨#[]⟩]) 60 rfl rfl (Or.inl ⟨by rfl,fun w hw=>by obtain ⟨hx,hy,gI,pj,c0,c1,c2,d0,d1,d2⟩:=hw;go_simp⟩) hT ?_
   simp only[Act.put,zL,zM,zN]
   refine aB 1 (.agg #[.int .i64 er,.int .i64 0,.int .i64 sp,.string ⟨#[]⟩]) 61 rfl rfl (Or.inl ⟨by rfl,fun w hw=>by obtain ⟨hx,hy,gI,pj,c0,c1,c2,d0,d1,d2⟩:=hw;go_simp⟩) hT ?_
   simp only[Act.put,zL,zM,zN]
   refine aB 2 (.bool false) 62 rfl rfl (Or.inl ⟨by rfl,fun w hw=>by obtain ⟨hx,hy,gI,pj,c0,c1,c2,d0,d1,d2⟩:=hw;go_simp⟩) hT ?_
   simp only[Act.put,zL,zM,zN]
   refine aB 3 (.bool false) 63 rfl rfl (Or.inl ⟨by rfl,fun w hw=>by obtain ⟨hx,hy,gI,pj,c0,c1,c2,d0,d1,d2⟩:=hw;go_simp⟩) hT ?_
   simp only[Act.put,zL,zM,zN]
   refine aB 4 (.agg #[.string fl.iT,.slice ia il ic,.slice ma ml mc,.slice ea el ec]) 64 rfl rfl (Or.inl ⟨by rfl,fun w hw=>by obtain ⟨hx,hy,gI,pj,c0,c1,c2,d0,d1,d2⟩:=hw;go_simp⟩) hT ?_
   simp only[Act.put,zL,zM,zN]
   refine aB 5 (.agg #[.string fl.iT,.slice NY NV NX,.slice NC Nj Nz,.slice Pc O' Pb]) 65 rfl rfl (Or.inl ⟨by rfl,fun w hw=>by obtain ⟨hx,hy,gI,pj,c0,c1,c2,d0,d1,d2⟩:=hw;go_simp⟩) hT ?_
   simp only[Act.put,zL,zM,zN]
   refine aN 6 (by kernel_rfl) rfl (fun K hK=>?_)
   refine Fp 66 rfl (by rfl) 10 (SF _) #[.tmp 64,.tmp 65] #[27,27] rfl #[.agg #[.string fl.iT,.slice ia il ic,.slice ma ml mc,.slice ea el ec],.agg #[.string fl.iT,.slice NY NV NX,.slice NC Nj Nz,.slice Pc O' Pb]] (by first|rfl|simp[Act.eval]) (mW ((aa HNa).up (EC (zE _ _))) ((aa HNb).up (EC (zE _ _)))) ?_
   rintro e w5 ⟨rfl,lr⟩
   have VM:Below wB.heap.size wB w5:=⟨lr.os,lr.tape,lr.output,lr.size,lr.block⟩
   have mH:(fun w=>X6 w2.heap.size w4.heap.size gl l.length #[.string fl.iT,.slice ia il ic,.slice ma ml mc,.slice ea el ec] #[.int .i64 er,.int .i64 0,.int .i64 sp,.string ⟨#[]⟩] #[.string fl.iT,.slice NY NV NX,.slice NC Nj Nz,.slice Pc O' Pb] w) w5:=hT.up lr (by have:=(aa LN).lx;show _<wB.heap.size;omega) (aa LN).ly (aa zQ).lt.2
   have HB5:=ab ((aa LN).up VM).bl
   have X':=ab ((aa zQ).up VM)
   refine ⟨_,rfl,hK _ _ ⟨fun _=>mH,?_⟩⟩
   clear hK K hT lr VM HNa HNb LN zQ h24
   simp only[Act.put,zL,zM,zN]
   refine aB 7 (.bool false) 67 rfl rfl (Or.inl ⟨by rfl,fun w hw=>by obtain ⟨hx,hy,gI,pj,c0,c1,c2,d0,d1,d2⟩:=hw;go_simp⟩) mH ?_
   simp only[Act.put,zL,zM,zN]
   refine aB 8 (.bool false) 68 rfl rfl (Or.inl ⟨by rfl,fun w hw=>by obtain ⟨hx,hy,gI,pj,c0,c1,c2,d0,d1,d2⟩:=hw;go_simp⟩) mH ?_
   simp only[Act.put,zL,zM,zN]
   refine aB 9 (.bool false) 69 rfl rfl (Or.inl ⟨by rfl,fun w hw=>by obtain ⟨hx,hy,gI,pj,c0,c1,c2,d0,d1,d2⟩:=hw;go_simp⟩) mH ?_
   simp only[Act.put,zL,zM,zN]
   refine aB 10 (.slice (some ⟨gl,0,none⟩) (l.length+2) (l.length+2)) 70 rfl rfl (Or.inl ⟨by rfl,fun w hw=>by obtain ⟨hx,hy,gI,pj,c0,c1,c2,d0,d1,d2⟩:=hw;go_simp⟩) mH ?_
   simp only[Act.put,zL,zM,zN]
   refine aB 11 (.int .i64 (l.length:Int)) 71 rfl rfl (Or.inl ⟨by rfl,fun w hw=>by obtain ⟨hx,hy,gI,pj,c0,c1,c2,d0,d1,d2⟩:=hw;go_simp⟩) mH ?_
   simp only[Act.put,zL,zM,zN]
   refine aB 12 (.pointer (some ⟨gl,l.length*3,none⟩)) 72 rfl rfl (Or.inl ⟨by rfl,fun w hw=>by obtain ⟨hx,hy,gI,pj,c0,c1,c2,d0,d1,d2⟩:=hw;go_simp⟩) mH ?_
   simp only[Act.put,zL,zM,zN]
   refine aB 13 (.agg #[.int .i64 9,.int .i64 7,.string ⟨#[109,97,114,107]⟩]) 73 rfl rfl (Or.inl ⟨by rfl,fun w hw=>by obtain ⟨hx,hy,gI,pj,c0,c1,c2,d0,d1,d2⟩:=hw;go_simp⟩) mH ?_
   simp only[Act.put,zL,zM,zN]
   refine aB 14 (.slice (some ⟨gl,0,none⟩) (l.length+2) (l.length+2)) 74 rfl rfl (Or.inl ⟨by rfl,fun w hw=>by obtain ⟨hx,hy,gI,pj,c0,c1,c2,d0,d1,d2⟩:=hw;go_simp⟩) mH ?_
   simp only[Act.put,zL,zM,zN]
   refine aB 15 (.int .i64 (l.length:Int)) 75 rfl rfl (Or.inl ⟨by rfl,fun w hw=>by obtain ⟨hx,hy,gI,pj,c0,c1,c2,d0,d1,d2⟩:=hw;go_simp⟩) mH ?_
   simp only[Act.put,zL,zM,zN]
   refine aB 16 (.int .i64 ((l.length:Int)+1)) 76 rfl rfl (Or.inl ⟨by rfl,fun w hw=>by go_simp⟩) mH ?_
   simp only[Act.put,zL,zM,zN]
   refine aB 17 (.pointer (some ⟨gl,(l.length+1)*3,none⟩)) 77 rfl rfl (Or.inl ⟨by rfl,fun w hw=>by obtain ⟨hx,hy,gI,pj,c0,c1,c2,d0,d1,d2⟩:=hw;go_simp⟩) mH ?_
   simp only[Act.put,zL,zM,zN]
   refine aB 18 (.agg #[.int .i64 9,.int .i64 7,.string ⟨#[109,97,114,107]⟩]) 78 rfl rfl (Or.inl ⟨by rfl,fun w hw=>by obtain ⟨hx,hy,gI,pj,c0,c1,c2,d0,d1,d2⟩:=hw;go_simp⟩) mH ?_
   simp only[Act.put,zL,zM,zN]
   refine aB 19 (.bool false) 79 rfl rfl (Or.inl ⟨by rfl,fun w hw=>by obtain ⟨hx,hy,gI,pj,c0,c1,c2,d0,d1,d2⟩:=hw;go_simp⟩) mH ?_
   simp only[Act.put,zL,zM,zN]
   refine aB 20 (.bool false) 80 rfl rfl (Or.inl ⟨by rfl,fun w hw=>by obtain ⟨hx,hy,gI,pj,c0,c1,c2,d0,d1,d2⟩:=hw;go_simp⟩) mH ?_
   simp only[Act.put,zL,zM,zN]
   refine aB 21 (.bool false) 81 rfl rfl (Or.inl ⟨by rfl,fun w hw=>by obtain ⟨hx,hy,gI,pj,c0,c1,c2,d0,d1,d2⟩:=hw;go_simp⟩) mH ?_
   simp only[Act.put,zL,zM,zN]
   refine aB 22 (.slice (some ⟨gl,0,none⟩) (l.length+2) (l.length+2)) 82 rfl rfl (Or.inl ⟨by rfl,fun w hw=>by obtain ⟨hx,hy,gI,pj,c0,c1,c2,d0,d1,d2⟩:=hw;go_simp⟩) mH ?_
   simp only[Act.put,zL,zM,zN]
   refine aB 23 (.int .i64 (l.length:Int)) 83 rfl rfl (Or.inl ⟨by rfl,fun w hw=>by obtain ⟨hx,hy,gI,pj,c0,c1,c2,d0,d1,d2⟩:=hw;go_simp⟩) mH ?_
   simp only[Act.put,zL,zM,zN]
   refine aB 24 (.pointer (some ⟨gl,l.length*3,none⟩)) 84 rfl rfl (Or.inl ⟨by rfl,fun w hw=>by obtain ⟨hx,hy,gI,pj,c0,c1,c2,d0,d1,d2⟩:=hw;go_simp⟩) mH ?_
   simp only[Act.put,zL,zM,zN]
   refine aB 25 (.pointer (some ⟨gl,l.length*3+2,none⟩)) 85 rfl rfl (Or.inl ⟨by rfl,fun w hw=>by obtain ⟨hx,hy,gI,pj,c0,c1,c2,d0,d1,d2⟩:=hw;go_simp⟩) mH ?_
   simp only[Act.put,zL,zM,zN]
   refine aB 26 (.string ⟨#[109,97,114,107]⟩) 86 rfl rfl (Or.inl ⟨by rfl,fun w hw=>by obtain ⟨hx,hy,gI,pj,c0,c1,c2,d0,d1,d2⟩:=hw;go_simp⟩) mH ?_
   simp only[Act.put,zL,zM,zN]
   refine aB 27 (.bool false) 87 rfl rfl (Or.inl ⟨by rfl,fun w hw=>by obtain ⟨hx,hy,gI,pj,c0,c1,c2,d0,d1,d2⟩:=hw;go_simp⟩) mH ?_
   simp only[Act.put,zL,zM,zN]
   refine aB 28 (.bool false) 88 rfl rfl (Or.inl ⟨by rfl,fun w hw=>by obtain ⟨hx,hy,gI,pj,c0,c1,c2,d0,d1,d2⟩:=hw;go_simp⟩) mH ?_
   simp only[Act.put,zL,zM,zN]
   refine aB 29 (.bool false) 89 rfl rfl (Or.inl ⟨by rfl,fun w hw=>by obtain ⟨hx,hy,gI,pj,c0,c1,c2,d0,d1,d2⟩:=hw;go_simp⟩) mH ?_
   simp only[Act.put,zL,zM,zN]
   refine aB 30 (.slice (some ⟨gl,0,none⟩) (l.length+2) (l.length+2)) 90 rfl rfl (Or.inl ⟨by rfl,fun w hw=>by obtain ⟨hx,hy,gI,pj,c0,c1,c2,d0,d1,d2⟩:=hw;go_simp⟩) mH ?_
   simp only[Act.put,zL,zM,zN]
   refine aB 31 (.int .i64 (l.length:Int)) 91 rfl rfl (Or.inl ⟨by rfl,fun w hw=>by obtain ⟨hx,hy,gI,pj,c0,c1,c2,d0,d1,d2⟩:=hw;go_simp⟩) mH ?_
   simp only[Act.put,zL,zM,zN]
   refine aB 32 (.pointer (some ⟨gl,l.length*3,none⟩)) 92 rfl rfl (Or.inl ⟨by rfl,fun w hw=>by obtain ⟨hx,hy,gI,pj,c0,c1,c2,d0,d1,d2⟩:=hw;go_simp⟩) mH ?_
   simp only[Act.put,zL,zM,zN]
   refine aB 33 (.pointer (some ⟨gl,l.length*3,none⟩)) 93 rfl rfl (Or.inl ⟨by rfl,fun w hw=>by obtain ⟨hx,hy,gI,pj,c0,c1,c2,d0,d1,d2⟩:=hw;go_simp⟩) mH ?_
   simp only[Act.put,zL,zM,zN]
   refine aB 34 (.int .i64 9) 94 rfl rfl (Or.inl ⟨by rfl,fun w hw=>by obtain ⟨hx,hy,gI,pj,c0,c1,c2,d0,d1,d2⟩:=hw;go_simp⟩) mH ?_
   simp only[Act.put,zL,zM,zN]
   refine aB 35 (.bool false) 95 rfl rfl (Or.inl ⟨by rfl,fun w hw=>by obtain ⟨hx,hy,gI,pj,c0,c1,c2,d0,d1,d2⟩:=hw;go_simp⟩) mH ?_
   simp only[Act.put,zL,zM,zN]
   refine aN 36 (by kernel_rfl) rfl (fun K hK=>?_)
   go_simp
   refine hK _ _ ⟨fun _=>mH,?_⟩
   clear hK K mH
   refine cP (by kernel_rfl) ?_
   clear abt j1 j2 j3 j4 S5 HEr HSp
   go_wp2
   go_loopg [10] l.length (fun gk v10 wr=>∃(j:Nat),v10=.int .i64 (j:Int)∧gk=l.length-j∧j≤l.length∧Hid (Below W.heap.size W wr)∧Hid (eS gl wr (.slice (some ⟨gl,0,none⟩) (l.length+2) (l.length+2)) (l++[rj,rj])))
   case atStart=>exact ⟨0,rfl,rfl,by omega,HB5,X'⟩
   case round =>
    clear HB5 X'
    obtain ⟨j,rfl,ou,hj,Xf,HRj⟩:=hrel
    have zp:=ab ou
    clear ou
    by_cases iX:j<l.length
    ·obtain ⟨⟨tk,tp,tx⟩,ht⟩:∃t,l[j]?=some t:=⟨_,List.getElem?_eq_getElem iX⟩
     have hi:(l++[rj,rj])[j]?=some ⟨tk,tp,tx⟩:=by rw[List.getElem?_append_left iX];exact ht
     obtain ⟨c0,c1,c2⟩:=(aa HRj).cell hi
     obtain ⟨p',cp',Zx,-,-,hx3⟩:=aa E3
     obtain ⟨gs,os,rfl,ZL,-,hx⟩:=hx3 (by omega)
     simp only[Value.slice.injEq] at Zx
     obtain ⟨rfl,-,rfl⟩:=Zx
     obtain ⟨e0,e1,e2⟩:=hx j _ ht
     have d0:=((aa Xf).cell (p:=⟨gs,os+j*3,none⟩) ZL).trans e0
     have d1:=((aa Xf).cell (p:=⟨gs,os+j*3+1,none⟩) ZL).trans e1
     have d2:=((aa Xf).cell (p:=⟨gs,os+j*3+2,none⟩) ZL).trans e2
     have hcj:wr.cell? ⟨g,off+k,none⟩=some (.slice (some ⟨gs,os,none⟩) l.length cp):=((aa Xf).cell (p:=⟨g,off+k,none⟩) hg).trans (aa HcW)
     have n0:(0:Int)≤(j:Int):=zH _
     have n1:(j:Int)<(l.length:Int):=by omega
     have n2:(j:Int)<(l.length:Int)+2:=by omega
     have n3:(0:Int)≤(k:Int):=zH _
     have n4:(k:Int)<(ls.length:Int):=by omega
     simp only at c0 c1 c2 d0 d1 d2
     clear ht hi hx3 hx e0 e1 e2
     go_upto_region 18 with fail
     go_quiet (fail)
     have HBq:Hid (Below W.heap.size W (wr.drewN nq)):=below_drewN (aa Xf) nq
     have HRq:Hid (eS gl (wr.drewN nq) (.slice (some ⟨gl,0,none⟩) (l.length+2) (l.length+2)) (l++[rj,rj])):=(aa HRj).up (below_drewN (zE _ _) nq)
     clear c0 c1 c2 d0 d1 d2 hcj Xf HRj
     go_wp2
     go_roundg (l.length-(j+1))
     case measure=>have:=aa zp;omega
     case rel=>exact ⟨j+1,by go_num,rfl,by omega,HBq,HRq⟩
    ·obtain rfl:j=l.length:=by omega
     go_wp2
     go_roundg (ls.length-(k+1))
     case measure=>have:=aa jw;omega
     case rel=>exact ⟨k+1,by go_num,rfl,by omega,Xf⟩
  ·obtain rfl:k=ls.length:=by omega
   go_wp2
   go_ret
   exact ⟨rfl,aa HB⟩
theorem ua {W:World}{v:Value}{ls:List (List Tk)} (hF:nG W) (hE:gU W) (hM:oO W) (h:tW W v ls) (hl:ls.length≤5864062014634∧∀l ∈ ls,l.length≤4398046510976∧∀t ∈ l,t.text.size≤140737488351232):Calls Tryz.prog 4 #[v] W fun e W'=>e=.returned (.bool true)∧Below W.heap.size W W':=C8 hF hE hM h hl (Kl hF hE hM)
end Go.Proofs.YtjophoclfccmcaaGreatDoor
namespace Go.Proofs.YtjophoclfccmcaaGreatDoor
open Go.ChangeShapes Go.WideShapes Go.ChangeAt Go.RowKit
theorem DP {H:Type}{enc:TypeId×Value→H}{P:Program}{w:World}{base:Nat}{sp:Nat→Bool}{held:Bool}{fuel:Nat}{t:TypeId}{ms:_}{cs:List Value}{nm:String}{d:DataW H}{p:List MemPlace}
  (ht:P.underlying t=some (.interface ms)) (h:DataW.trod enc P w base sp held fuel t cs=some (.iface nm d,p)):∃u v,cs=[.iface u v]:=by
 cases fuel with
 |zero=>simp[DataW.trod] at h
 |succ fuel =>
  simp only[DataW.trod,ht] at h
  split at h
  all_goals first
   |exact ⟨_,_,rfl⟩
   |(simp at h;done)
   |(simp_all;done)
   |(rename_i heq _;cases heq;done)
   |(rename_i heq;cases heq;done)
theorem II {W:World}{name nm:String}{d:DataW Unit}{g:Nat} (hg:Tryz.prog.globalNamed name=some g) (hty:(Tryz.prog.globals[g]?).map (·.type)=some 150) (h:Lib.VarReads Tryz.prog W name (.iface nm d)):Lq W g:=by
 obtain ⟨g',t',cs,fuel,p,rC,ht',Vp,hd⟩:=h
 obtain rfl:=zC (hg.symm.trans rC)
 obtain rfl:=zC (hty.symm.trans ht')
 have hc:=World.var?_cell hg Vp
 obtain ⟨u,v,eP⟩:=DP Tryz.underlying150 hd
 have h1:W.cell? ⟨g,0,none⟩=some (.iface u v):=by
  rw[hc]
  have:cs.toList[0]?=some (.iface u v):=by rw[eP];rfl
  simpa using this
 exact ⟨World.block_lt_of_cell? W _ h1,_,h1,.inr ⟨u,v,rfl⟩⟩
theorem Sd {W:World}{laid:List (String×DataW Unit)} (h:laidMet Tryz.prog laid W) (hm:("strconv.ErrSyntax",Rows.laid_strconv_ErrSyntax) ∈ laid) (AS:("strconv.ErrRange",Rows.laid_strconv_ErrRange) ∈ laid):gU W :=
 ⟨II (by kernel_rfl) (by kernel_rfl) (Lib.laidMet.reads h hm),II (by kernel_rfl) (by kernel_rfl) (Lib.laidMet.reads h AS)⟩
theorem OF:Tryz.prog.globalNamed "sigil/wire.forms" = some 0:=by kernel_rfl
theorem Ge:(Tryz.prog.globals[0]?).map (·.type)=some 124:=by kernel_rfl
theorem GM:Tryz.prog.cellsOf 124=45:=by kernel_rfl
theorem A':Tryz.prog.cellsOf 123=5:=by kernel_rfl
theorem cellsByte:Tryz.prog.cellsOf 5=1:=by kernel_rfl
theorem Gm {H:Type}{enc:TypeId×Value→H}{w:World}{base:Nat}{sp:Nat→Bool}{held:Bool}{fuel:Nat}{cs:List Value}{a b c d e:Int}{p:List MemPlace}
  (h:DataW.trod enc Tryz.prog w base sp held fuel 123 cs=some (.agg [.lit (.int .u8 a),.lit (.int .u8 b),.lit (.int .u8 c),.lit (.int .u8 d),.lit (.int .u8 e)],p)) :
  cs=[.int .u8 a,.int .u8 b,.int .u8 c,.int .u8 d,.int .u8 e]:=by
 obtain ⟨xs,k,_,hx,hlen,Vn,hf⟩:=DataW.trod_struct Tryz.underlying123 h
 rw[A'] at hlen
 match xs,Vn,cs,hlen with
 |[y0,y1,y2,y3,y4],_,[v0,v1,v2,v3,v4],_ =>
  have g0:=hf 0 _ rfl
  have g1:=hf 1 _ rfl
  have g2:=hf 2 _ rfl
  have g3:=hf 3 _ rfl
  have g4:=hf 4 _ rfl
  simp[cellsByte] at g0 g1 g2 g3 g4
  obtain ⟨n0,e0,f0,_⟩:=DataW.trod_int Tryz.underlying5 g0
  obtain ⟨n1,e1,f1,_⟩:=DataW.trod_int Tryz.underlying5 g1
  obtain ⟨n2,e2,f2,_⟩:=DataW.trod_int Tryz.underlying5 g2
  obtain ⟨n3,e3,f3,_⟩:=DataW.trod_int Tryz.underlying5 g3
  obtain ⟨n4,e4,f4,_⟩:=DataW.trod_int Tryz.underlying5 g4
  simp at e0 e1 e2 e3 e4
  subst e0 e1 e2 e3 e4 f0 f1 f2 f3 f4
  simp at hx
  obtain ⟨⟨q0,q1,q2,q3,q4⟩,_⟩:=hx
  subst q0 q1 q2 q3 q4
  rfl
theorem C' {H:Type}{enc:TypeId×Value→H}{w:World}{base:Nat}{sp:Nat→Bool}{held:Bool}{fuel:Nat}{cs:List Value}{p:List MemPlace}
  (h:DataW.trod enc Tryz.prog w base sp held fuel 124 cs=some (Rows.laid_sigil_wire_forms,p)) :
  ∀(i:Nat) (a b c d e:Int),lh[i]?=some (a,b,c,d,e)→(cs.drop (i*5)).take 5=[.int .u8 a,.int .u8 b,.int .u8 c,.int .u8 d,.int .u8 e]:=by
 intro i a b c d e hf
 cases fuel with
 |zero=>simp[DataW.trod] at h
 |succ fuel =>
  simp only[DataW.trod,Tryz.underlying124,A',GM] at h
  split at h
  ·obtain ⟨xs,hm,hx⟩:=Option.map_eq_some_iff.1 h
   have hi:i<9:=by
    have:=(zB hf).1
    rw[oX] at this
    exact this
   obtain ⟨y,hy,hfy⟩:=Lib.mapM_at hm i i (by simp[hi])
   have hxs:xs.map (·.1)=lh.map fun z=>(DataW.agg [.lit (.int .u8 z.1),.lit (.int .u8 z.2.1),.lit (.int .u8 z.2.2.1),.lit (.int .u8 z.2.2.2.1),.lit (.int .u8 z.2.2.2.2)]:DataW H):=by
    have:=congrArg Prod.fst hx
    simpa[Rows.laid_sigil_wire_forms,lh] using this
   have h2:(xs.map (·.1))[i]?=some y.1:=by simp[hy]
   rw[hxs,List.getElem?_map,hf] at h2
   simp at h2
   obtain ⟨y1,y2⟩:=y
   simp only at h2
   subst h2
   exact Gm hfy
  ·cases h
theorem Sc {W:World}{laid:List (String×DataW Unit)} (h:laidMet Tryz.prog laid W) (hm:("sigil/wire.forms",Rows.laid_sigil_wire_forms) ∈ laid):nG W:=by
 obtain ⟨g',t',cs,fuel,p,rC,ht',Vp,hd⟩:=Lib.laidMet.reads h hm
 obtain rfl:=zC (OF.symm.trans rC)
 obtain rfl:=zC (Ge.symm.trans ht')
 have hc:=World.var?_cell OF Vp
 have ht:=C' hd
 have fg:∀(i j:Nat) (l:List Value) (v:Value),(cs.toList.drop (i*5)).take 5=l→j<5→l[j]?=some v→W.cell? ⟨0,i*5+j,none⟩=some v:=by
  intro i j l v hl hj hv
  rw[hc]
  subst hl
  rw[List.getElem?_take,if_pos hj,List.getElem?_drop] at hv
  simpa using hv
 refine ⟨?_,fun i a b c d e hf=>?_⟩
 ·have:=fg 0 0 _ (.int .u8 0) (ht 0 0 127 0 0 0 rfl) (by decide) rfl
  exact World.block_lt_of_cell? W _ this
 ·have hl:=ht i a b c d e hf
  have h0:=fg i 0 _ _ hl (by decide) rfl
  have h1:=fg i 1 _ _ hl (by decide) rfl
  have h2:=fg i 2 _ _ hl (by decide) rfl
  have h3:=fg i 3 _ _ hl (by decide) rfl
  have h4:=fg i 4 _ _ hl (by decide) rfl
  exact ⟨h0,h1,h2,h3,h4⟩
end Go.Proofs.YtjophoclfccmcaaGreatDoor

import Derived.Test.YtmlphohdcejniaaGreatDoorM14
import Derived.Orders
import Derived.RegionTactic
set_option maxHeartbeats 8000000
set_option maxRecDepth 100000
namespace Go.Proofs.YtmlphohdcejniaaGreatDoor
open Go.RowKit Go.Shelf
attribute [local go_sem ↓] Go.wp_at_zero Go.wp_at_succ
theorem vK {lb b:Nat}{V W:World}{s:aI} (hv:Env V W b) (h:Rd lb W b s) (hs:Sm s) (hn:s.ts.length≤16384) (hp:0<s.ts.length):Calls Tryz.prog 161 #[.pointer (some ⟨b,0,none⟩)] W (PR lb b W Fd.val (cx s)):=by
 have eA:=h.low
 have bH:Below W.heap.size W (W.alloc (.cells #[.int .i64 0,.string ⟨#[]⟩,.string ⟨#[]⟩,.string ⟨#[]⟩,.int .i64 0,.int .i64 0] 70)):=(zE _ _).alloc (zD _) _
 have hM:Mw lb b W.heap.size V W s s (W.alloc (.cells #[.int .i64 0,.string ⟨#[]⟩,.string ⟨#[]⟩,.string ⟨#[]⟩,.int .i64 0,.int .i64 0] 70)):=⟨h.up bH,hv.step (aA b bH),aC _ _,aA b bH,⟨eA.2,rfl,eA.1⟩,.refl _⟩
 have hc:=aj (y7 (n:=1) hM.rd (by omega))
 have HM:=aj hM
 have HS:=aj hs
 clear h hv hs bH hM
 have hI:Hid (∀w,Calls Tryz.prog 118 #[(s.ahead 1).val,.int .i64 4,.string ⟨#[60]⟩] w fun e w'=>e=.returned (.bool (dD (s.ahead 1) 4 ⟨#[60]⟩))∧Below w.heap.size w w'):=fun w=>qz w (s.ahead 1) 4 _
 have M8:Hid (∃p q r,(s.ahead 1).val=.agg #[p,q,r]):=⟨_,_,_,rfl⟩
 obtain ⟨p,q,r,De⟩:=aa M8
 rw[De] at hI hc
 clear M8 De
 go_enter Tryz.func161,Tryz.ntmps161
 go_wp2_with fail
 refine (aa hc).mono ?_
 rintro e w1 ⟨rfl,bC⟩
 have Ym:=aj ((aa HM).up bC)
 clear bC hc HM
 go_wp2_with fail
 refine (aa hI w1).mono ?_
 rintro e w2 ⟨rfl,bH⟩
 have Jv:=aj ((aa Ym).up bH)
 clear bH hI Ym
 cases Jo:dD (s.ahead 1) 4 ⟨#[60]⟩ with
 |false =>
  have tK:Hid (cx s=gg 0 s):=by show _=_;unfold cx;rw[if_neg (by rw[Jo];simp)]
  have HC:=aj (qo 0 (aa Jv).env (aa Jv).rd (aa HS) hn)
  clear Jo
  go_wp2_with fail
  refine (aa HC).mono ?_
  intro e w3 hw
  rcases hw.split with ⟨y,hr,rfl,hg⟩|⟨d2,s3,hr,rfl,h3,hg⟩
  ·refine ⟨rfl,?_⟩
   rw[aa tK,hr]
   exact ⟨rfl,(aa Jv).gr.trans hg⟩
  ·obtain ⟨c9,k9,t9,n9,m9,o9⟩:=d2
   have WG:=(aa Jv).lw
   have S0:Mw lb b W.heap.size V W s3 s3 w3:=⟨h3,(aa Jv).env.step hg,(hg.block W.heap.size (zA (aa Jv).rs).1 (by simp;omega)).trans (aa Jv).rs,(aa Jv).gr.trans hg,WG,.refl _⟩
   have mD:cx s=.ok (⟨c9,k9,t9,n9,m9,o9⟩,s3):=(aa tK).trans hr
   unfold Fd.val Fd.arr
   simp only
   clear hw hr hg h3 HC tK Jv
   obtain ⟨d1,d2⟩:=S0.done ⟨c9,k9,t9,n9,m9,o9⟩ mD
   obtain ⟨⟨v0,v1,v2,v3,v4,v5⟩,vf⟩:=ir S0.rs
   have e0:=vf 0
   have e1:=vf 1
   have e2:=vf 2
   have e3:=vf 3
   have e4:=vf 4
   have e5:=vf 5
   have D1:=aj d1
   have D2:=aj d2
   unfold nA Fd.val Fd.arr at D1
   unfold nA at D2
   simp only at D1 D2
   clear d1 d2 vf mD S0
   go_wp2
   exact bodyPost_ret (results_cell_row rfl _ _ W.heap.size 70 #[.int .i64 c9,.string k9,.string t9,.string n9,.int .i64 m9,.int .i64 o9] (0,0) _ rfl (aa D2) Tryz.underlying70 rfl ng) rfl (aa D1)
 |true =>
  have tK:Hid (cx s=vL s):=by show _=_;unfold cx;rw[if_pos Jo]
  clear Jo
  go_wp2_with fail
  refine (fe (aa Jv).rd).mono ?_
  rintro e w3 ⟨rfl,h3,eY⟩
  have Qa:Hid (Mw lb b W.heap.size V W s s.begun w3):=(aa Jv).step h3 eY ⟨0,rfl,rfl,rfl⟩
  clear h3 eY Jv
  go_wp2_with fail
  refine (cY (aa Qa).rd hp).mono ?_
  intro e w4 hw
  rcases hw.split with ⟨y,hr,rfl,hg⟩|⟨_,s4,hr,rfl,h4,hg⟩
  ·refine ⟨rfl,?_⟩
   rw[aa tK]
   unfold vL
   rw[hr]
   exact ⟨rfl,(aa Qa).gr.trans hg⟩
  ·have P9:Hid (Mw lb b W.heap.size V W s s4 w4):=(aa Qa).step h4 hg ⟨1,by rw[nj hr,List.drop_one],lQ hr⟩
   have P2:=aj hr
   clear hw hr hg h4 Qa
   go_wp2_with fail
   refine (cQ (aa P9).rd _).mono ?_
   intro e w5 hw
   rcases hw.split with ⟨y,hr,rfl,hg⟩|⟨_,s5,hr,rfl,h5,hg⟩
   ·refine ⟨rfl,?_⟩
    rw[aa tK]
    unfold vL
    rw[aa P2]
    simp only
    rw[hr]
    exact ⟨rfl,(aa P9).gr.trans hg⟩
   ·have Nf:=aj ((aa P9).step h5 hg (bN hr))
    have XS:=aj hr
    clear hw hr hg h5 P9
    have hl5:=(aa Nf).sf.len
    go_wp2_with fail
    refine (lZ true (aa Nf).rd ((aa Nf).sf.sm (aa HS)) (by omega)).mono ?_
    intro e w6 hw
    rcases hw.split with ⟨y,hr,rfl,hg⟩|⟨kx,s6,hr,rfl,h6,hg⟩
    ·refine ⟨rfl,?_⟩
     rw[aa tK]
     unfold vL
     rw[aa P2]
     simp only
     rw[aa XS]
     simp only
     rw[hr]
     exact ⟨rfl,(aa Nf).gr.trans hg⟩
    ·have Zt:=(aa Nf).step h6 hg (fA hr)
     have TS:=aj hr
     have aaw:W.heap.size<w6.heap.size:=(zA Zt.rs).1
     have Z1:=aj (Zt.up ((zE _ w6).alloc (zD _) (.cells #[.int .i64 4,.string kx,.string ⟨#[]⟩,.string ⟨#[]⟩,.int .i64 0,.int .i64 0] 70)))
     have wm:=Zt.lw
     have HD7:Hid ((w6.alloc (.cells #[.int .i64 4,.string kx,.string ⟨#[]⟩,.string ⟨#[]⟩,.int .i64 0,.int .i64 0] 70)).heap[w6.heap.size]?=some (.cells #[.int .i64 4,.string kx,.string ⟨#[]⟩,.string ⟨#[]⟩,.int .i64 0,.int .i64 0] 70 (0,0))):=aC _ _
     clear hw hr hg h6 Nf Zt hl5
     go_wp2_with fail
     refine (cQ (aa Z1).rd _).mono ?_
     intro e w8 hw
     rcases hw.split with ⟨y,hr,rfl,hg⟩|⟨_,s8,hr,rfl,h8,hg⟩
     ·refine ⟨rfl,?_⟩
      rw[aa tK]
      unfold vL
      rw[aa P2]
      simp only
      rw[aa XS]
      simp only
      rw[aa TS]
      simp only
      rw[hr]
      exact ⟨rfl,(aa Z1).gr.trans hg⟩
     ·have U8:=aj ((aa Z1).step h8 hg (bN hr))
      have HD8:=aj ((hg.block w6.heap.size (zA (aa HD7)).1 (by simp;omega)).trans (aa HD7))
      have Hr8:=aj hr
      clear hw hr hg h8 Z1 HD7
      have hl8:=(aa U8).sf.len
      go_wp2_with fail
      refine (lZ true (aa U8).rd ((aa U8).sf.sm (aa HS)) (by omega)).mono ?_
      intro e w9 hw
      rcases hw.split with ⟨y,hr,rfl,hg⟩|⟨tx,s9,hr,rfl,h9,hg⟩
      ·refine ⟨rfl,?_⟩
       rw[aa tK]
       unfold vL
       rw[aa P2]
       simp only
       rw[aa XS]
       simp only
       rw[aa TS]
       simp only
       rw[aa Hr8]
       simp only
       rw[hr]
       exact ⟨rfl,(aa U8).gr.trans hg⟩
      ·have hM9:=(aa U8).step h9 hg (fA hr)
       have hD9:=(hg.block w6.heap.size (zA (aa HD8)).1 (by simp;omega)).trans (aa HD8)
       obtain ⟨⟨y0,y1,y2,y3,y4,y5⟩,yf⟩:=ir hD9
       have f2:=yf 2
       obtain ⟨q1,g1⟩:=aJ (j:=2) hD9 (.string tx)
       simp only[zN,zM] at q1
       have Qc:=aj (hM9.new g1 aaw)
       have Ub:=aj q1
       have Hr9:=aj hr
       clear hw hr hg h9 U8 HD8 hM9 hD9 yf q1 g1 hl8
       go_wp2_with fail
       refine (cQ (aa Qc).rd _).mono ?_
       intro e w11 hw
       rcases hw.split with ⟨y,hr,rfl,hg⟩|⟨_,s11,hr,rfl,h11,hg⟩
       ·refine ⟨rfl,?_⟩
        rw[aa tK]
        unfold vL
        rw[aa P2]
        simp only
        rw[aa XS]
        simp only
        rw[aa TS]
        simp only
        rw[aa Hr8]
        simp only
        rw[aa Hr9]
        simp only
        rw[hr]
        exact ⟨rfl,(aa Qc).gr.trans hg⟩
       ·have LQ:=(aa Qc).step h11 hg (bN hr)
        have Xn:=(hg.block w6.heap.size (zA (aa Ub)).1 (by simp;omega)).trans (aa Ub)
        obtain ⟨⟨u0,u1,u2,u3,u4,u5⟩,_⟩:=ir Xn
        have T9:Hid (cx s=Ib ⟨4,kx,tx,⟨#[]⟩,0,0⟩ s11):=by
         show _=_
         rw[aa tK]
         unfold vL
         rw[aa P2]
         simp only
         rw[aa XS]
         simp only
         rw[aa TS]
         simp only
         rw[aa Hr8]
         simp only
         rw[aa Hr9]
         simp only
         rw[hr]
        have E6:=aj LQ
        have HC:=aj (KK ⟨4,kx,tx,⟨#[]⟩,0,0⟩ LQ.env LQ.rd (LQ.sf.sm (aa HS)))
        unfold Fd.val Fd.arr at HC
        simp only at HC
        clear hw hr hg h11 Qc Ub LQ Xn y0 y1 y2 y3 y4 y5 f2
        go_wp2_with fail
        refine (aa HC).mono ?_
        intro e YS hw
        rcases hw.split with ⟨y,hr,rfl,hg⟩|⟨d2,s12,hr,rfl,h12,hg⟩
        ·refine ⟨rfl,?_⟩
         rw[aa T9,hr]
         exact ⟨rfl,(aa E6).gr.trans hg⟩
        ·obtain ⟨c9,k9,t9,n9,m9,o9⟩:=d2
         have WG:=(aa E6).lw
         have S0:Mw lb b W.heap.size V W s12 s12 YS:=⟨h12,(aa E6).env.step hg,(hg.block W.heap.size (zA (aa E6).rs).1 (by simp;omega)).trans (aa E6).rs,(aa E6).gr.trans hg,WG,.refl _⟩
         have mD:cx s=.ok (⟨c9,k9,t9,n9,m9,o9⟩,s12):=(aa T9).trans hr
         simp only
         clear hw hr hg h12 HC T9 tK E6 u0 u1 u2 u3 u4 u5
         obtain ⟨d1,d2⟩:=S0.done ⟨c9,k9,t9,n9,m9,o9⟩ mD
         obtain ⟨⟨v0,v1,v2,v3,v4,v5⟩,vf⟩:=ir S0.rs
         have e0:=vf 0
         have e1:=vf 1
         have e2:=vf 2
         have e3:=vf 3
         have e4:=vf 4
         have e5:=vf 5
         have D1:=aj d1
         have D2:=aj d2
         unfold nA Fd.val Fd.arr at D1
         unfold nA at D2
         simp only at D1 D2
         clear d1 d2 vf mD S0
         go_wp2
         exact bodyPost_ret (results_cell_row rfl _ _ W.heap.size 70 #[.int .i64 c9,.string k9,.string t9,.string n9,.int .i64 m9,.int .i64 o9] (0,0) _ rfl (aa D2) Tryz.underlying70 rfl ng) rfl (aa D1)
noncomputable def dH (s:aI):Except (Int×Int) (ByteArray×aI):=match bE s.begun with
 |.error e=>.error e
 |.ok (_,s1)=>if (dD s1.here 1 ⟨#[112,117,98,108,105,99]⟩ ||dD s1.here 1 ⟨#[119,101,97,107]⟩)=true then .error (52,s1.here.spot) else match bO eL s1 with
  |.error e=>.error e
  |.ok (x,s2)=>match aW ⟨#[59]⟩ s2 with
   |.error e=>.error e
   |.ok (_,s3)=>.ok (x,s3)
theorem Ad {lb b:Nat}{V W:World}{s:aI} (hv:Env V W b) (h:Rd lb W b s) (hp:0<s.ts.length):Calls Tryz.prog 99 #[.pointer (some ⟨b,0,none⟩)] W (PR lb b W Value.string (dH s)):=by
 have hc:=aj (fe h)
 have Hv:=aj hv
 clear h hv
 go_enter Tryz.func99,Tryz.ntmps99
 go_wp2_with fail
 refine (aa hc).mono ?_
 rintro e w1 ⟨rfl,h1,kk⟩
 have HN:=aj (cY h1 hp)
 have pU:=aj kk
 clear h1 kk hc
 go_wp2_with fail
 refine (aa HN).mono ?_
 intro e w2 hw
 rcases hw.split with ⟨y,hr,rfl,hg⟩|⟨_,s2,hr,rfl,h2,hg⟩
 ·refine ⟨rfl,?_⟩
  unfold dH
  rw[hr]
  exact ⟨rfl,(aa pU).trans hg⟩
 ·have NT:=aj hr
  have H2:=aj h2
  have U':=aj ((aa pU).trans hg)
  clear hw hr hg h2 HN pU
  have hI:Hid (∀w x,Calls Tryz.prog 118 #[s2.here.val,.int .i64 1,.string x] w fun e w'=>e=.returned (.bool (dD s2.here 1 x))∧Below w.heap.size w w'):=fun w x=>qz w s2.here 1 x
  have hH:=aj (eV (aa H2))
  obtain ⟨t,ht⟩:∃t,s2.here=t:=⟨_,rfl⟩
  have Ht:=aj ht
  rw[ht] at hI hH
  obtain ⟨kd,sp,tx⟩:=t
  unfold Tk.val at hI hH
  simp only at hI hH
  clear ht
  go_wp2_with fail
  refine (aa hH).mono ?_
  rintro e w3 ⟨rfl,mC⟩
  have SS:=mC.alloc mC.size (.cells #[.int .i64 kd,.int .i64 sp,.string tx] 44)
  have gj:∀w,Below (w3.alloc (.cells #[.int .i64 kd,.int .i64 sp,.string tx] 44)).heap.size (w3.alloc (.cells #[.int .i64 kd,.int .i64 sp,.string tx] 44)) w→w.cell? ⟨w3.heap.size,0,none⟩=some (.int .i64 kd)∧w.cell? ⟨w3.heap.size,1,none⟩=some (.int .i64 sp)∧w.cell? ⟨w3.heap.size,2,none⟩=some (.string tx):=fun w hb=>by
   have e:=(hb.block w3.heap.size (by rw[zJ];omega)).trans (aC w3 (.cells #[.int .i64 kd,.int .i64 sp,.string tx] 44))
   refine ⟨?_,?_,?_⟩<;>rw[cell_of_row _ _ _ _ _ _ e]<;>rfl
  have XY:=aj gj
  have H3:=aj ((aa H2).up SS)
  have Ds:=aj ((aa U').trans (aA b SS))
  clear mC SS gj hH H2
  go_wp2_with fail
  refine (aa hI _ _).mono ?_
  rintro e w4 ⟨rfl,eR⟩
  obtain ⟨x0,x1,x2⟩:=aa XY w4 eR
  have H4:=aj ((aa H3).up eR)
  have Nh:=aj ((aa Ds).trans (aA b eR))
  clear eR H3 XY
  have mD:∀f1 f2:Bool,dD ⟨kd,sp,tx⟩ 1 ⟨#[112,117,98,108,105,99]⟩=f1→dD ⟨kd,sp,tx⟩ 1 ⟨#[119,101,97,107]⟩=f2→dH s=(if (f1 ||f2)=true then .error (52,s2.here.spot) else match bO eL s2 with|.error e=>.error e|.ok (x,s3)=>match aW ⟨#[59]⟩ s3 with|.error e=>.error e|.ok (_,s4)=>.ok (x,s4)):=fun f1 f2 h1 h2=>by
   unfold dH
   rw[aa NT]
   simp only
   rw[aa Ht,h1,h2]
  have HEq:=aj mD
  clear mD
  cases Lq:dD ⟨kd,sp,tx⟩ 1 ⟨#[112,117,98,108,105,99]⟩ with
  |true =>
   have xW:=aj (aa HEq true _ Lq rfl)
   clear Lq HEq
   go_wp2_with fail
   refine (j3 (aa H4)).mono ?_
   rintro e w5 ⟨rfl,jf⟩
   refine ⟨rfl,?_⟩
   rw[aa xW,Bool.true_or,if_pos rfl]
   exact ⟨rfl,(aa Nh).trans (aA b jf)⟩
  |false =>
   have UZ:=aj Lq
   clear Lq
   go_wp2_with fail
   refine (aa hI _ _).mono ?_
   rintro e w5 ⟨rfl,jf⟩
   have H5:=aj ((aa H4).up jf)
   have Z6:=aj ((aa Nh).trans (aA b jf))
   clear jf H4 Nh x0 x1 x2
   cases xq:dD ⟨kd,sp,tx⟩ 1 ⟨#[119,101,97,107]⟩ with
   |true =>
    have xW:=aj (aa HEq false true (aa UZ) xq)
    clear xq HEq
    go_wp2_with fail
    refine (j3 (aa H5)).mono ?_
    rintro e w6 ⟨rfl,IC⟩
    refine ⟨rfl,?_⟩
    rw[aa xW,Bool.or_true,if_pos rfl]
    exact ⟨rfl,(aa Z6).trans (aA b IC)⟩
   |false =>
    have xW:Hid (dH s=(match bO eL s2 with|.error e=>.error e|.ok (x,s3)=>match aW ⟨#[59]⟩ s3 with|.error e=>.error e|.ok (_,s4)=>.ok (x,s4))):=by
     have:=aa HEq false false (aa UZ) xq
     rw[Bool.or_false,if_neg (by simp)] at this
     exact this
    have HM:=aj (oy ((aa Hv).step (aa Z6)) (aa H5))
    clear xq HEq
    go_wp2_with fail
    refine (aa HM).mono ?_
    intro e w6 hw
    rcases hw.split with ⟨y,hr,rfl,hg⟩|⟨x,s6,hr,rfl,h6,hg⟩
    ·refine ⟨rfl,?_⟩
     rw[aa xW,hr]
     exact ⟨rfl,(aa Z6).trans hg⟩
    ·have TS:=aj hr
     have HG6:=aj ((aa Z6).trans hg)
     have HN:=aj (cQ h6 ⟨#[59]⟩)
     clear hw hr hg h6 HM H5
     go_wp2_with fail
     refine (aa HN).mono ?_
     intro e w7 hw
     rcases hw.split with ⟨y,hr,rfl,hg⟩|⟨_,s7,hr,rfl,h7,hg⟩
     ·refine ⟨rfl,?_⟩
      rw[aa xW,aa TS]
      simp only
      rw[hr]
      exact ⟨rfl,(aa HG6).trans hg⟩
     ·have HE:Hid (PR lb b W Value.string (dH s) (.returned (.string x)) w7):=by
       show PR lb b W Value.string (dH s) _ _
       rw[aa xW,aa TS]
       simp only
       rw[hr]
       exact ⟨rfl,h7,(aa HG6).trans hg⟩
      clear hw hr hg h7
      go_wp2
      go_ret
      exact aa HE
end Go.Proofs.YtmlphohdcejniaaGreatDoor
namespace Go.Proofs.YtmlphohdcejniaaGreatDoor
open Go.RowKit
section
variable {P : Program} {ops : Array Oper} {Q : Exit → Act → World → Prop} {md : Region.Mode}
theorem pj {d:Array Bool}{i:Nat} (h:i ∈ Region.ready md ops d):∃hi:i<d.size,d[i]=false:=by
 have h1:=(mem_ready.1 h).1
 rcases Nat.lt_or_ge i d.size with hi|hi
 ·refine ⟨hi,?_⟩
  simpa[hi] using h1
 ·simp[Array.getElem?_eq_none hi] at h1
theorem qg (I:Array Bool→Act→World→Prop) (step:∀d a w i,I d a w→i ∈ Region.ready md ops d→wpOp P ops Q i (fun a' w'=>I (d.setIfInBounds i true) a' w') a w) (fin:∀d a w,I d a w→Region.ready md ops d=[]→Q .normal a w) :
  ∀(n:Nat) (d:Array Bool) (a:Act) (w:World),I d a w→d.count false≤n→wpAny P md ops Q n d a w
 |0,d,a,w,hI,hn=>by
  have hr:Region.ready md ops d=[]:=by
   apply List.eq_nil_iff_forall_not_mem.2
   intro i hi
   obtain ⟨h1,h2⟩:=pj hi
   have h3:0<d.count false:=Array.count_pos_iff.2 (by rw[←h2];exact Array.getElem_mem h1)
   omega
  exact ⟨hr,fin d a w hI hr⟩
 |n+1,d,a,w,hI,hn=>by
  refine ⟨fun hr=>fin d a w hI hr,fun i hi=>?_⟩
  refine wpOp_mono (fun a' w' h'=>qg I step fin n _ a' w' h' ?_) (step d a w i hI hi)
  obtain ⟨h1,h2⟩:=pj hi
  have h3:0<d.count false:=Array.count_pos_iff.2 (by rw[←h2];exact Array.getElem_mem h1)
  rw[Array.setIfInBounds_def,dif_pos h1,Array.count_set h1,h2]
  simp
  omega
theorem aB {α:Type}{d:Array α}{i j:Nat}{x z:α} (h:i≠j):(d.setIfInBounds i x).getD j z=d.getD j z:=by
 simp[Array.getD_eq_getD_getElem?,h]
theorem bQ {α:Type}{d:Array α}{i:Nat}{x z:α} (h:i<d.size):(d.setIfInBounds i x).getD i z=x:=by
 simp[h]
theorem Gd {d:Array Bool}{i:Nat}{o:Oper} (bR:i<d.size) (hr:Region.ready md ops d=[]) (ho:ops[i]?=some o) (WZ:∀e ∈ o.after,Region.binds md e=true→d.getD e.on false=true):d.getD i false=true:=by
 by_cases h:d.getD i true=false
 ·have:i ∈ Region.ready md ops d:=mem_ready.2 ⟨h,o,ho,WZ⟩
  rw[hr] at this
  cases this
 ·simp[bR] at h ⊢
  exact h
def kI (ops:Array Oper) (i k:Nat):Prop:=∃o,ops[i]?=some o∧∃e ∈ o.after,Region.binds .any e=true∧e.on=k
def fh (ops:Array Oper) (i k:Nat):Bool:=match ops[i]? with
 |some o=>o.after.any fun e=>Region.binds .any e&&e.on==k
 |none=>false
theorem dV {i k:Nat} (h:fh ops i k=true):kI ops i k:=by
 unfold fh at h
 cases ho:ops[i]? with
 |none=>rw[ho] at h;cases h
 |some o =>
  rw[ho] at h
  simp only[Array.any_eq_true] at h
  obtain ⟨j,hj,h2⟩:=h
  rw[Bool.and_eq_true] at h2
  exact ⟨o,ho,o.after[j],Array.getElem_mem hj,h2.1,eq_of_beq h2.2⟩
def Gm (ops:Array Oper) (n:Nat):Bool:=(List.range n).all fun i=>match ops[i]? with
 |some o=>o.after.all fun e=>decide (e.on<i)
 |none=>true
theorem Gl {n:Nat} (hn:ops.size=n) (h:Gm ops n=true):∀(i:Nat) (o:Oper),ops[i]?=some o→∀e ∈ o.after,e.on<i:=by
 intro i o ho e he
 have hi:i<n:=by rw[←hn];exact (zA ho).1
 have h1:=List.all_eq_true.1 h i (List.mem_range.2 hi)
 rw[ho] at h1
 simp only[Array.all_eq_true] at h1
 obtain ⟨j,hj,rfl⟩:=Array.getElem_of_mem he
 exact of_decide_eq_true (h1 j hj)
def Xz (ops:Array Oper) (z:Nat):Bool:=(List.range z).all fun i=>fh ops z i ||(List.range z).any fun j=>fh ops z j&&fh ops j i
theorem Ml {z:Nat} (h:Xz ops z=true):∀D:Nat→Prop,(∀k j,D k→kI ops k j→D j)→(∀j,kI ops z j→D j)→∀i,i<z→D i:=by
 intro D gj hD i hi
 have h1:=List.all_eq_true.1 h i (List.mem_range.2 hi)
 rw[Bool.or_eq_true] at h1
 rcases h1 with h1|h1
 ·exact hD i (dV h1)
 ·obtain ⟨j,_,h2⟩:=List.any_eq_true.1 h1
  rw[Bool.and_eq_true] at h2
  exact gj j i (hD j (dV h2.1)) (dV h2.2)
theorem cN {id z N c:Nat} (OV:P.follows .mixedOrders=true) (s:Nat→Nat) (val:Nat→Value) (Φ:Nat→Value→World→Prop) (gR:Array Value) (w0:World)
  (hn:ops.size=z+1) (hN:gR.size=N) (Lx:∀i j,i<z→j<z→s i=s j→i=j) (hs:∀i,i<z→s i<N) (Cp:Gm ops (z+1)=true)
  (hc:c+2<z) (w1:fh ops (c+1) c=true) (w2:fh ops (c+2) (c+1)=true) (hz:Xz ops z=true) (h0:Φ 0 undef w0.drew)
  (quiet:∀k tm w,k<z→(k<c∨c+2<k)→tm.size=N→(∀j,(∀i,i<z→s i≠j)→tm.getD j undef=gR.getD j undef)→(∀j,(j<c∨c+2<j)→fh ops k j=true→tm.getD (s j) undef=val j)→(∃ph x,Φ ph x w) →
   wpOp P ops Q k (fun a' w'=>a'=⟨tm.setIfInBounds (s k) (val k),[]⟩∧w'=w) ⟨tm,[]⟩ w)
  (call:∀tm w,tm.size=N→(∀j,(∀i,i<z→s i≠j)→tm.getD j undef=gR.getD j undef)→(∀j,(j<c∨c+2<j)→fh ops c j=true→tm.getD (s j) undef=val j)→Φ 0 undef w→wpOp P ops Q c (fun a' w'=>∃x,a'=⟨tm.setIfInBounds (s c) x,[]⟩∧Φ 1 x w') ⟨tm,[]⟩ w)
  (bs:∀tm w x,tm.size=N→tm.getD (s c) undef=x→Φ 1 x w→wpOp P ops Q (c+1) (fun a' w'=>∃y,a'=⟨tm.setIfInBounds (s (c+1)) y,[]⟩∧Φ 2 y w') ⟨tm,[]⟩ w)
  (ap:∀tm w y,tm.size=N→(∀j,(j<c∨c+2<j)→fh ops (c+2) j=true→tm.getD (s j) undef=val j)→tm.getD (s (c+1)) undef=y→Φ 2 y w→wpOp P ops Q (c+2) (fun a' w'=>∃y',a'=⟨tm.setIfInBounds (s (c+2)) y',[]⟩∧Φ 3 y' w') ⟨tm,[]⟩ w)
  (last:∀tm w y,tm.size=N→(∀j,(∀i,i<z→s i≠j)→tm.getD j undef=gR.getD j undef)→(∀j,j<z→(j<c∨c+2<j)→tm.getD (s j) undef=val j)→tm.getD (s (c+2)) undef=y→Φ 3 y w→wpOp P ops Q z (fun a' w'=>Q .normal a' w') ⟨tm,[]⟩ w) :
  (Code.region id ops true).wp P Q ⟨gR,[]⟩ w0:=by
 have hb:=Gl hn Cp
 have W1:=dV w1
 have W2:=dV w2
 refine wp_region_any OV (qg (md:=.any) (fun d a w=>d.size=z+1∧(∀k j,d.getD k false=true→kI ops k j→d.getD j false=true)∧((d.getD z false=false∧∃tm,a=⟨tm,[]⟩∧tm.size=N∧(∀j,(∀i,i<z→s i≠j)→tm.getD j undef=gR.getD j undef)∧(∀k,k<z→(k<c∨c+2<k)→d.getD k false=true→tm.getD (s k) undef=val k) ∧
   ((d.getD c false=false∧Φ 0 undef w)∨(d.getD c false=true∧d.getD (c+1) false=false∧Φ 1 (tm.getD (s c) undef) w)∨(d.getD (c+1) false=true∧d.getD (c+2) false=false∧Φ 2 (tm.getD (s (c+1)) undef) w)∨(d.getD (c+2) false=true∧Φ 3 (tm.getD (s (c+2)) undef) w))) ∨
   (d.getD z false=true∧Q .normal a w))) ?_ ?_ _ _ _ _ ?_ ?_)
 ·rintro d a w i ⟨hd,gj,LG⟩ hr
  obtain ⟨hi,rR⟩:=pj hr
  obtain ⟨_,o,ho,kN⟩:=mem_ready.1 hr
  have iL:d.getD i false=false:=by simp[hi,rR]
  have hw:∀k,kI ops i k→d.getD k false=true:=by
   rintro k ⟨o',Ag,e,he,hb,rfl⟩
   rw[ho] at Ag
   obtain rfl:=zC Ag
   exact kN e he hb
  have Cn:∀k j,(d.setIfInBounds i true).getD k false=true→kI ops k j→(d.setIfInBounds i true).getD j false=true:=by
   intro k j hk hj
   by_cases e:j=i
   ·subst e
    exact bQ hi
   ·rw[aB (Ne.symm e)]
    by_cases e2:k=i
    ·subst e2
     exact hw j hj
    ·rw[aB (Ne.symm e2)] at hk
     exact gj k j hk hj
  have gW:(d.setIfInBounds i true).size=z+1:=by rw[Array.size_setIfInBounds];exact hd
  rcases LG with ⟨A0,tm,rfl,h1,h2,h3,h4⟩|⟨A0,hq⟩
  rotate_left
  ·exfalso
   have OY:i<z:=by
    rcases Nat.lt_or_ge i z with q|q
    ·exact q
    ·obtain rfl:i=z:=by omega
     rw[A0] at iL;cases iL
   have:=Ml hz (fun k=>d.getD k false=true) gj (fun j hj=>gj _ _ A0 hj) i OY
   rw[this] at iL;cases iL
  by_cases OY:i=z
  ·subst OY
   have jv:=Ml hz (fun k=>d.getD k false=true) gj hw
   have h5:Φ 3 (tm.getD (s (c+2)) undef) w:=by
    rcases h4 with ⟨q,_⟩|⟨_,q,_⟩|⟨_,q,_⟩|⟨_,q⟩
    ·rw[jv c (by omega)] at q;cases q
    ·rw[jv (c+1) (by omega)] at q;cases q
    ·rw[jv (c+2) (by omega)] at q;cases q
    ·exact q
   refine wpOp_mono ?_ (last tm w _ h1 h2 (fun j hj hq=>h3 j hj hq (jv j hj)) rfl h5)
   intro a' w' hq
   exact ⟨gW,Cn,.inr ⟨bQ hi,hq⟩⟩
  ·have Ah:i<z:=by omega
   have Uw:(d.setIfInBounds i true).getD z false=false:=by rw[aB OY];exact A0
   have bW:∀x:Value,∀j,(∀i,i<z→s i≠j)→(tm.setIfInBounds (s i) x).getD j undef=gR.getD j undef:=fun x j hj=>by rw[aB (hj i Ah)];exact h2 j hj
   have Ce:∀(x:Value) k,k<z→k≠i→(tm.setIfInBounds (s i) x).getD (s k) undef=tm.getD (s k) undef:=fun x k hk eo=>aB (fun q=>eo (Lx i k Ah hk q).symm)
   by_cases QA:i<c∨c+2<i
   ·refine wpOp_mono ?_ (quiet i tm w Ah QA h1 h2 (fun j hjq hj=>h3 j (by have:=hb i o ho;obtain ⟨o',Ag,e,he,_,rfl⟩:=dV hj;rw[ho] at Ag;obtain rfl:=zC Ag;have:=this e he;omega) hjq (hw j (dV hj))) (by rcases h4 with ⟨_,q⟩|⟨_,_,q⟩|⟨_,_,q⟩|⟨_,q⟩<;>exact ⟨_,_,q⟩))
    rintro a' w' ⟨rfl,rfl⟩
    refine ⟨gW,Cn,.inl ⟨Uw,_,rfl,by rw[Array.size_setIfInBounds];exact h1,bW _,fun k hk hkq WY=>?_,?_⟩⟩
    ·by_cases e:k=i
     ·subst e
      exact bQ (by rw[h1];exact hs k hk)
     ·rw[aB (Ne.symm e)] at WY
      rw[Ce _ k hk e]
      exact h3 k hk hkq WY
    ·rw[aB (show i≠c by omega),aB (show i≠c+1 by omega),aB (show i≠c+2 by omega),Ce _ c (by omega) (by omega),Ce _ (c+1) (by omega) (by omega),Ce _ (c+2) (by omega) (by omega)]
     exact h4
   ·have A3:∀x:Value,∀k,k<z→(k<c∨c+2<k)→(d.setIfInBounds i true).getD k false=true→(tm.setIfInBounds (s i) x).getD (s k) undef=val k:=fun x k hk hkq WY=>by
     rw[aB (show i≠k by omega)] at WY
     rw[Ce _ k hk (by omega)]
     exact h3 k hk hkq WY
    have aV:∀j,(j<c∨c+2<j)→fh ops i j=true→tm.getD (s j) undef=val j:=fun j hjq hj=>h3 j (by have:=hb i o ho;obtain ⟨o',Ag,e,he,_,rfl⟩:=dV hj;rw[ho] at Ag;obtain rfl:=zC Ag;have:=this e he;omega) hjq (hw j (dV hj))
    rcases (show i=c∨i=c+1∨i=c+2 by omega) with rfl|rfl|rfl
    ·rcases h4 with ⟨_,q⟩|⟨q,_⟩|⟨q,_⟩|⟨q,_⟩
     ·refine wpOp_mono ?_ (call tm w h1 h2 aV q)
      rintro a' w' ⟨x,rfl,hx⟩
      refine ⟨gW,Cn,.inl ⟨Uw,_,rfl,by rw[Array.size_setIfInBounds];exact h1,bW _,A3 x,.inr (.inl ⟨bQ hi,?_,?_⟩)⟩⟩
      ·rw[aB (by omega)]
       apply Bool.eq_false_iff.2
       intro q2
       rw[gj _ _ q2 W1] at iL;cases iL
      ·rw[bQ (by rw[h1];exact hs _ Ah)]
       exact hx
     ·rw[q] at iL;cases iL
     ·rw[gj _ _ q W1] at iL;cases iL
     ·rw[gj _ _ (gj _ _ q W2) W1] at iL;cases iL
    ·rcases h4 with ⟨q,_⟩|⟨_,_,q⟩|⟨q,_⟩|⟨q,_⟩
     ·rw[hw _ W1] at q;cases q
     ·refine wpOp_mono ?_ (bs tm w _ h1 rfl q)
      rintro a' w' ⟨x,rfl,hx⟩
      refine ⟨gW,Cn,.inl ⟨Uw,_,rfl,by rw[Array.size_setIfInBounds];exact h1,bW _,A3 x,.inr (.inr (.inl ⟨bQ hi,?_,?_⟩))⟩⟩
      ·rw[aB (by omega)]
       apply Bool.eq_false_iff.2
       intro q2
       rw[gj _ _ q2 W2] at iL;cases iL
      ·rw[bQ (by rw[h1];exact hs _ Ah)]
       exact hx
     ·rw[q] at iL;cases iL
     ·rw[gj _ _ q W2] at iL;cases iL
    ·rcases h4 with ⟨q,_⟩|⟨_,q,_⟩|⟨_,_,q⟩|⟨q,_⟩
     ·rw[gj _ _ (hw _ W2) W1] at q;cases q
     ·rw[hw _ W2] at q;cases q
     ·refine wpOp_mono ?_ (ap tm w _ h1 aV rfl q)
      rintro a' w' ⟨x,rfl,hx⟩
      refine ⟨gW,Cn,.inl ⟨Uw,_,rfl,by rw[Array.size_setIfInBounds];exact h1,bW _,A3 x,.inr (.inr (.inr ⟨bQ hi,?_⟩))⟩⟩
      rw[bQ (by rw[h1];exact hs _ Ah)]
      exact hx
     ·rw[q] at iL;cases iL
 ·rintro d a w ⟨hd,gj,⟨A0,_⟩|⟨_,hq⟩⟩ hr
  ·exfalso
   have kN:∀m i,i<m→i<z+1→d.getD i false=true:=by
    intro m
    induction m with
    |zero=>intro i hi;omega
    |succ m ih =>
     intro i hi NG
     obtain ⟨o,ho⟩:∃o,ops[i]?=some o:=⟨_,Array.getElem?_eq_getElem (by omega)⟩
     exact Gd (by omega) hr ho fun e he _=>ih e.on (by have:=hb i o ho e he;omega) (by have:=hb i o ho e he;omega)
   rw[kN (z+1) z (by omega) (by omega)] at A0;cases A0
  ·exact hq
 ·have Cg:∀k,(Array.replicate ops.size false).getD k false=false:=fun k=>by
   simp[Array.getD_eq_getD_getElem?,Array.getElem?_replicate]
   split<;>simp
  refine ⟨by simp[hn],fun k j hk _=>(by rw[Cg k] at hk;cases hk),.inl ⟨Cg z,gR,rfl,hN,fun _ _=>rfl,fun k _ _ hk=>(by rw[Cg k] at hk;cases hk),.inl ⟨Cg c,h0⟩⟩⟩
 ·simp
theorem mP {i:Nat}{o:Oper}{a:Act}{w w':World}{K:Act→World→Prop}{v:Value} (ho:ops[i]?=some o) (hg:o.guard=none) (hr:(execOp a.eval o).run P w=.ok (.value v) w') (hK:K (a.put o.dst v) w'):wpOp P ops Q i K a w:=by
 refine wpOp_step ho (fun K' Xj=>?_)
 have hw:Region.wanted o (yielded ops a.tmps)=true:=by simp[Region.wanted,hg]
 rw[if_pos hw]
 unfold Oper.wp
 rw[hr]
 exact Xj _ _ hK
theorem OA {i:Nat}{o:Oper}{a:Act}{w w':World}{K:Act→World→Prop} (ho:ops[i]?=some o) (hg:o.guard=none) (hr:(execOp a.eval o).run P w=.ok .skip w') (hK:K (a.put o.dst undef) w'):wpOp P ops Q i K a w:=by
 refine wpOp_step ho (fun K' Xj=>?_)
 have hw:Region.wanted o (yielded ops a.tmps)=true:=by simp[Region.wanted,hg]
 rw[if_pos hw]
 unfold Oper.wp
 rw[hr]
 exact Xj _ _ hK
theorem b9 {i:Nat}{o:Oper}{a:Act}{w:World}{K:Act→World→Prop} (ho:ops[i]?=some o) (hg:o.guard=none) (f:FuncId) (Aj:∀vs,(callFunc f vs).run P w=.ok (.enter f vs) w) (args:Array Operand) (Nu:Array TypeId)
  (ju:o.op=.call { callee:=.value (.func f),args:=args,argTypes:=Nu }) (vs:Array Value) (hv:args.map a.eval=vs) {R:Ending→World→Prop} (hc:Calls P f vs w R) (hK:∀e w',R e w'→(∃v,e=.returned v∧K (a.put o.dst v) w')∨∃ch,e=.panicked ch∧Q (.panic ch) a w'):wpOp P ops Q i K a w:=by
 refine wpOp_step ho (fun K' Xj=>?_)
 have hw:Region.wanted o (yielded ops a.tmps)=true:=by simp[Region.wanted,hg]
 rw[if_pos hw]
 have h2:Oper.wp P o a w K' Q=o.upon P a K' Q (.ok (.enter f vs) w):=by
  unfold Oper.wp
  simp[execOp,ju,resolve,invoke,←hv,Act.eval,Deferred.ofValue,Aj]
 rw[h2,Oper.upon_enter]
 refine hc.mono ?_
 intro e w' hr
 rcases hK e w' hr with ⟨v,rfl,hk⟩|⟨ch,rfl,hq⟩
 ·exact Xj _ _ hk
 ·exact hq
theorem Fq {S:Sem Value}{w w':World}{v:Value} (h:S.run P w=.ok v w'):((do pure (Next.value (←S))):Sem Next).run P w=.ok (.value v) w':=by
 simp[h]
theorem aS {i:Nat}{o:Oper}{a:Act}{w w':World}{K:Act→World→Prop}{v vx:Value} (ho:ops[i]?=some o) (hg:o.guard=none) (t:TypeId) (x:Operand) (ju:o.op=.load t x) (ex:a.eval x=vx) (hr:(Instr.loadAt t vx).run P w=.ok v w') (hK:K (a.put o.dst v) w'):wpOp P ops Q i K a w :=
 mP ho hg (by simp only[execOp,ju,ex,Sem.run_pure,Sem.run_bind,hr,Result.andThen_ok]) hK
end
end Go.Proofs.YtmlphohdcejniaaGreatDoor

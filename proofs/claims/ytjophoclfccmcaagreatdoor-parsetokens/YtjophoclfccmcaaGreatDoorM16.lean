import Derived.Test.YtjophoclfccmcaaGreatDoorM15
import Derived.Orders
import Derived.RegionTactic
set_option maxHeartbeats 8000000
set_option maxRecDepth 100000
namespace Go.Proofs.YtjophoclfccmcaaGreatDoor
open Go.RowKit Go.Shelf
attribute [local go_sem ↓] Go.wp_at_zero Go.wp_at_succ
theorem yz {lb b:Nat}{V W:World}{s:ay} (hv:Env V W b) (h:Rd lb W b s) (hs:Sm s) (hn:s.ts.length≤16384) (hp:0<s.ts.length):Calls Tryz.prog 154 #[.pointer (some ⟨b,0,none⟩)] W (PR lb b W Fd.val (de s)):=by
 have cB:=h.low
 have br:Below W.heap.size W (W.alloc (.cells #[.int .i64 0,.string ⟨#[]⟩,.string ⟨#[]⟩,.string ⟨#[]⟩,.int .i64 0,.int .i64 0] 45)):=(zE _ _).alloc (zD _) _
 have hM:Mw lb b W.heap.size V W s s (W.alloc (.cells #[.int .i64 0,.string ⟨#[]⟩,.string ⟨#[]⟩,.string ⟨#[]⟩,.int .i64 0,.int .i64 0] 45)):=⟨h.up br,hv.step (aD b br),aH _ _,aD b br,⟨cB.2,rfl,cB.1⟩,.refl _⟩
 have hc:=ab (Bb (n:=1) hM.rd (by omega))
 have HM:=ab hM
 have HS:=ab hs
 clear h hv hs br hM
 have hI:Hid (∀w,Calls Tryz.prog 119 #[(s.ahead 1).val,.int .i64 4,.string ⟨#[60]⟩] w fun e w'=>e=.returned (.bool (aJ (s.ahead 1) 4 ⟨#[60]⟩))∧Below w.heap.size w w'):=fun w=>sJ w (s.ahead 1) 4 _
 have PY:Hid (∃p q r,(s.ahead 1).val=.agg #[p,q,r]):=⟨_,_,_,rfl⟩
 obtain ⟨p,q,r,Kt⟩:=aa PY
 rw[Kt] at hI hc
 clear PY Kt
 go_enter Tryz.func154,Tryz.ntmps154
 go_wp2_with fail
 refine (aa hc).mono ?_
 rintro e w1 ⟨rfl,bQ⟩
 have HM1:=ab ((aa HM).up bQ)
 clear bQ hc HM
 go_wp2_with fail
 refine (aa hI w1).mono ?_
 rintro e w2 ⟨rfl,br⟩
 have xL:=ab ((aa HM1).up br)
 clear br hI HM1
 cases RP:aJ (s.ahead 1) 4 ⟨#[60]⟩ with
 |false =>
  have wY:Hid (de s=cq 0 s):=by show _=_;unfold de;rw[if_neg (by rw[RP];simp)]
  have HC:=ab (sC 0 (aa xL).env (aa xL).rd (aa HS) hn)
  clear RP
  go_wp2_with fail
  refine (aa HC).mono ?_
  intro e w3 hw
  rcases hw.split with ⟨y,hr,rfl,hg⟩|⟨d2,s3,hr,rfl,h3,hg⟩
  ·refine ⟨rfl,?_⟩
   rw[aa wY,hr]
   exact ⟨rfl,(aa xL).gr.trans hg⟩
  ·obtain ⟨c9,k9,t9,n9,m9,o9⟩:=d2
   have ZH:=(aa xL).lw
   have VT:Mw lb b W.heap.size V W s3 s3 w3:=⟨h3,(aa xL).env.step hg,(hg.block W.heap.size (zA (aa xL).rs).1 (by simp;omega)).trans (aa xL).rs,(aa xL).gr.trans hg,ZH,.refl _⟩
   have nK:de s=.ok (⟨c9,k9,t9,n9,m9,o9⟩,s3):=(aa wY).trans hr
   unfold Fd.val Fd.arr
   simp only
   clear hw hr hg h3 HC wY xL
   obtain ⟨d1,d2⟩:=VT.done ⟨c9,k9,t9,n9,m9,o9⟩ nK
   obtain ⟨⟨v0,v1,v2,v3,v4,v5⟩,vf⟩:=bE VT.rs
   have e0:=vf 0
   have e1:=vf 1
   have e2:=vf 2
   have e3:=vf 3
   have e4:=vf 4
   have e5:=vf 5
   have D1:=ab d1
   have D2:=ab d2
   unfold mv Fd.val Fd.arr at D1
   unfold mv at D2
   simp only at D1 D2
   clear d1 d2 vf nK VT
   go_wp2
   exact bodyPost_ret (results_cell_row rfl _ _ W.heap.size 45 #[.int .i64 c9,.string k9,.string t9,.string n9,.int .i64 m9,.int .i64 o9] (0,0) _ rfl (aa D2) Tryz.underlying45 rfl kp) rfl (aa D1)
 |true =>
  have wY:Hid (de s=lu s):=by show _=_;unfold de;rw[if_pos RP]
  clear RP
  go_wp2_with fail
  refine (fF (aa xL).rd).mono ?_
  rintro e w3 ⟨rfl,h3,cN⟩
  have Ye:Hid (Mw lb b W.heap.size V W s s.begun w3):=(aa xL).step h3 cN ⟨0,rfl,rfl,rfl⟩
  clear h3 cN xL
  go_wp2_with fail
  refine (dS (aa Ye).rd hp).mono ?_
  intro e w4 hw
  rcases hw.split with ⟨y,hr,rfl,hg⟩|⟨_,s4,hr,rfl,h4,hg⟩
  ·refine ⟨rfl,?_⟩
   rw[aa wY]
   unfold lu
   rw[hr]
   exact ⟨rfl,(aa Ye).gr.trans hg⟩
  ·have Ul:Hid (Mw lb b W.heap.size V W s s4 w4):=(aa Ye).step h4 hg ⟨1,by rw[nf hr,List.drop_one],nd hr⟩
   have SS:=ab hr
   clear hw hr hg h4 Ye
   go_wp2_with fail
   refine (dw (aa Ul).rd _).mono ?_
   intro e w5 hw
   rcases hw.split with ⟨y,hr,rfl,hg⟩|⟨_,s5,hr,rfl,h5,hg⟩
   ·refine ⟨rfl,?_⟩
    rw[aa wY]
    unfold lu
    rw[aa SS]
    simp only
    rw[hr]
    exact ⟨rfl,(aa Ul).gr.trans hg⟩
   ·have P9:=ab ((aa Ul).step h5 hg (bw hr))
    have Hr5:=ab hr
    clear hw hr hg h5 Ul
    have hl5:=(aa P9).sf.len
    go_wp2_with fail
    refine (nr true (aa P9).rd ((aa P9).sf.sm (aa HS)) (by omega)).mono ?_
    intro e w6 hw
    rcases hw.split with ⟨y,hr,rfl,hg⟩|⟨kx,s6,hr,rfl,h6,hg⟩
    ·refine ⟨rfl,?_⟩
     rw[aa wY]
     unfold lu
     rw[aa SS]
     simp only
     rw[aa Hr5]
     simp only
     rw[hr]
     exact ⟨rfl,(aa P9).gr.trans hg⟩
    ·have hM6:=(aa P9).step h6 hg (ft hr)
     have WH:=ab hr
     have Ad:W.heap.size<w6.heap.size:=(zA hM6.rs).1
     have HM7:=ab (hM6.up ((zE _ w6).alloc (zD _) (.cells #[.int .i64 4,.string kx,.string ⟨#[]⟩,.string ⟨#[]⟩,.int .i64 0,.int .i64 0] 45)))
     have yO:=hM6.lw
     have HD7:Hid ((w6.alloc (.cells #[.int .i64 4,.string kx,.string ⟨#[]⟩,.string ⟨#[]⟩,.int .i64 0,.int .i64 0] 45)).heap[w6.heap.size]?=some (.cells #[.int .i64 4,.string kx,.string ⟨#[]⟩,.string ⟨#[]⟩,.int .i64 0,.int .i64 0] 45 (0,0))):=aH _ _
     clear hw hr hg h6 P9 hM6 hl5
     go_wp2_with fail
     refine (dw (aa HM7).rd _).mono ?_
     intro e w8 hw
     rcases hw.split with ⟨y,hr,rfl,hg⟩|⟨_,s8,hr,rfl,h8,hg⟩
     ·refine ⟨rfl,?_⟩
      rw[aa wY]
      unfold lu
      rw[aa SS]
      simp only
      rw[aa Hr5]
      simp only
      rw[aa WH]
      simp only
      rw[hr]
      exact ⟨rfl,(aa HM7).gr.trans hg⟩
     ·have Yd:=ab ((aa HM7).step h8 hg (bw hr))
      have HD8:=ab ((hg.block w6.heap.size (zA (aa HD7)).1 (by simp;omega)).trans (aa HD7))
      have Hr8:=ab hr
      clear hw hr hg h8 HM7 HD7
      have hl8:=(aa Yd).sf.len
      go_wp2_with fail
      refine (nr true (aa Yd).rd ((aa Yd).sf.sm (aa HS)) (by omega)).mono ?_
      intro e w9 hw
      rcases hw.split with ⟨y,hr,rfl,hg⟩|⟨tx,s9,hr,rfl,h9,hg⟩
      ·refine ⟨rfl,?_⟩
       rw[aa wY]
       unfold lu
       rw[aa SS]
       simp only
       rw[aa Hr5]
       simp only
       rw[aa WH]
       simp only
       rw[aa Hr8]
       simp only
       rw[hr]
       exact ⟨rfl,(aa Yd).gr.trans hg⟩
      ·have hM9:=(aa Yd).step h9 hg (ft hr)
       have hD9:=(hg.block w6.heap.size (zA (aa HD8)).1 (by simp;omega)).trans (aa HD8)
       obtain ⟨⟨y0,y1,y2,y3,y4,y5⟩,yf⟩:=bE hD9
       have f2:=yf 2
       obtain ⟨q1,g1⟩:=aC (j:=2) hD9 (.string tx)
       simp only[zN,zM] at q1
       have S3:=ab (hM9.new g1 Ad)
       have Xd:=ab q1
       have Hr9:=ab hr
       clear hw hr hg h9 Yd HD8 hM9 hD9 yf q1 g1 hl8
       go_wp2_with fail
       refine (dw (aa S3).rd _).mono ?_
       intro e w11 hw
       rcases hw.split with ⟨y,hr,rfl,hg⟩|⟨_,s11,hr,rfl,TN,hg⟩
       ·refine ⟨rfl,?_⟩
        rw[aa wY]
        unfold lu
        rw[aa SS]
        simp only
        rw[aa Hr5]
        simp only
        rw[aa WH]
        simp only
        rw[aa Hr8]
        simp only
        rw[aa Hr9]
        simp only
        rw[hr]
        exact ⟨rfl,(aa S3).gr.trans hg⟩
       ·have Oz:=(aa S3).step TN hg (bw hr)
        have aaa:=(hg.block w6.heap.size (zA (aa Xd)).1 (by simp;omega)).trans (aa Xd)
        obtain ⟨⟨u0,u1,u2,u3,u4,u5⟩,_⟩:=bE aaa
        have W8:Hid (de s=AL ⟨4,kx,tx,⟨#[]⟩,0,0⟩ s11):=by
         show _=_
         rw[aa wY]
         unfold lu
         rw[aa SS]
         simp only
         rw[aa Hr5]
         simp only
         rw[aa WH]
         simp only
         rw[aa Hr8]
         simp only
         rw[aa Hr9]
         simp only
         rw[hr]
        have G0:=ab Oz
        have HC:=ab (M6 ⟨4,kx,tx,⟨#[]⟩,0,0⟩ Oz.env Oz.rd (Oz.sf.sm (aa HS)))
        unfold Fd.val Fd.arr at HC
        simp only at HC
        clear hw hr hg TN S3 Xd Oz aaa y0 y1 y2 y3 y4 y5 f2
        go_wp2_with fail
        refine (aa HC).mono ?_
        intro e JD hw
        rcases hw.split with ⟨y,hr,rfl,hg⟩|⟨d2,s12,hr,rfl,VX,hg⟩
        ·refine ⟨rfl,?_⟩
         rw[aa W8,hr]
         exact ⟨rfl,(aa G0).gr.trans hg⟩
        ·obtain ⟨c9,k9,t9,n9,m9,o9⟩:=d2
         have ZH:=(aa G0).lw
         have VT:Mw lb b W.heap.size V W s12 s12 JD:=⟨VX,(aa G0).env.step hg,(hg.block W.heap.size (zA (aa G0).rs).1 (by simp;omega)).trans (aa G0).rs,(aa G0).gr.trans hg,ZH,.refl _⟩
         have nK:de s=.ok (⟨c9,k9,t9,n9,m9,o9⟩,s12):=(aa W8).trans hr
         simp only
         clear hw hr hg VX HC W8 wY G0 u0 u1 u2 u3 u4 u5
         obtain ⟨d1,d2⟩:=VT.done ⟨c9,k9,t9,n9,m9,o9⟩ nK
         obtain ⟨⟨v0,v1,v2,v3,v4,v5⟩,vf⟩:=bE VT.rs
         have e0:=vf 0
         have e1:=vf 1
         have e2:=vf 2
         have e3:=vf 3
         have e4:=vf 4
         have e5:=vf 5
         have D1:=ab d1
         have D2:=ab d2
         unfold mv Fd.val Fd.arr at D1
         unfold mv at D2
         simp only at D1 D2
         clear d1 d2 vf nK VT
         go_wp2
         exact bodyPost_ret (results_cell_row rfl _ _ W.heap.size 45 #[.int .i64 c9,.string k9,.string t9,.string n9,.int .i64 m9,.int .i64 o9] (0,0) _ rfl (aa D2) Tryz.underlying45 rfl kp) rfl (aa D1)
noncomputable def bq (s:ay):Except (Int×Int) (ByteArray×ay):=match bz s.begun with
 |.error e=>.error e
 |.ok (_,s1)=>if (aJ s1.here 1 ⟨#[112,117,98,108,105,99]⟩ ||aJ s1.here 1 ⟨#[119,101,97,107]⟩)=true then .error (52,s1.here.spot) else match bB dO s1 with
  |.error e=>.error e
  |.ok (x,s2)=>match au ⟨#[59]⟩ s2 with
   |.error e=>.error e
   |.ok (_,s3)=>.ok (x,s3)
theorem BQ {lb b:Nat}{V W:World}{s:ay} (hv:Env V W b) (h:Rd lb W b s) (hp:0<s.ts.length):Calls Tryz.prog 101 #[.pointer (some ⟨b,0,none⟩)] W (PR lb b W Value.string (bq s)):=by
 have hc:=ab (fF h)
 have Hv:=ab hv
 clear h hv
 go_enter Tryz.func101,Tryz.ntmps101
 go_wp2_with fail
 refine (aa hc).mono ?_
 rintro e w1 ⟨rfl,h1,l8⟩
 have HN:=ab (dS h1 hp)
 have rZ:=ab l8
 clear h1 l8 hc
 go_wp2_with fail
 refine (aa HN).mono ?_
 intro e w2 hw
 rcases hw.split with ⟨y,hr,rfl,hg⟩|⟨_,s2,hr,rfl,h2,hg⟩
 ·refine ⟨rfl,?_⟩
  unfold bq
  rw[hr]
  exact ⟨rfl,(aa rZ).trans hg⟩
 ·have Qw:=ab hr
  have H2:=ab h2
  have S4:=ab ((aa rZ).trans hg)
  clear hw hr hg h2 HN rZ
  have hI:Hid (∀w x,Calls Tryz.prog 119 #[s2.here.val,.int .i64 1,.string x] w fun e w'=>e=.returned (.bool (aJ s2.here 1 x))∧Below w.heap.size w w'):=fun w x=>sJ w s2.here 1 x
  have hH:=ab (fC (aa H2))
  obtain ⟨t,ht⟩:∃t,s2.here=t:=⟨_,rfl⟩
  have Ht:=ab ht
  rw[ht] at hI hH
  obtain ⟨kd,sp,tx⟩:=t
  unfold Tk.val at hI hH
  simp only at hI hH
  clear ht
  go_wp2_with fail
  refine (aa hH).mono ?_
  rintro e w3 ⟨rfl,qM⟩
  have VO:=qM.alloc qM.size (.cells #[.int .i64 kd,.int .i64 sp,.string tx] 38)
  have iL:∀w,Below (w3.alloc (.cells #[.int .i64 kd,.int .i64 sp,.string tx] 38)).heap.size (w3.alloc (.cells #[.int .i64 kd,.int .i64 sp,.string tx] 38)) w→w.cell? ⟨w3.heap.size,0,none⟩=some (.int .i64 kd)∧w.cell? ⟨w3.heap.size,1,none⟩=some (.int .i64 sp)∧w.cell? ⟨w3.heap.size,2,none⟩=some (.string tx):=fun w hb=>by
   have e:=(hb.block w3.heap.size (by rw[zJ];omega)).trans (aH w3 (.cells #[.int .i64 kd,.int .i64 sp,.string tx] 38))
   refine ⟨?_,?_,?_⟩<;>rw[cell_of_row _ _ _ _ _ _ e]<;>rfl
  have SU:=ab iL
  have H3:=ab ((aa H2).up VO)
  have xM:=ab ((aa S4).trans (aD b VO))
  clear qM VO iL hH H2
  go_wp2_with fail
  refine (aa hI _ _).mono ?_
  rintro e w4 ⟨rfl,fj⟩
  obtain ⟨x0,x1,x2⟩:=aa SU w4 fj
  have H4:=ab ((aa H3).up fj)
  have se:=ab ((aa xM).trans (aD b fj))
  clear fj H3 SU
  have nK:∀f1 f2:Bool,aJ ⟨kd,sp,tx⟩ 1 ⟨#[112,117,98,108,105,99]⟩=f1→aJ ⟨kd,sp,tx⟩ 1 ⟨#[119,101,97,107]⟩=f2→bq s=(if (f1 ||f2)=true then .error (52,s2.here.spot) else match bB dO s2 with|.error e=>.error e|.ok (x,s3)=>match au ⟨#[59]⟩ s3 with|.error e=>.error e|.ok (_,s4)=>.ok (x,s4)):=fun f1 f2 h1 h2=>by
   unfold bq
   rw[aa Qw]
   simp only
   rw[aa Ht,h1,h2]
  have HEq:=ab nK
  clear nK
  cases Ql:aJ ⟨kd,sp,tx⟩ 1 ⟨#[112,117,98,108,105,99]⟩ with
  |true =>
   have sg:=ab (aa HEq true _ Ql rfl)
   clear Ql HEq
   go_wp2_with fail
   refine (kS (aa H4)).mono ?_
   rintro e w5 ⟨rfl,lr⟩
   refine ⟨rfl,?_⟩
   rw[aa sg,Bool.true_or,if_pos rfl]
   exact ⟨rfl,(aa se).trans (aD b lr)⟩
  |false =>
   have X7:=ab Ql
   clear Ql
   go_wp2_with fail
   refine (aa hI _ _).mono ?_
   rintro e w5 ⟨rfl,lr⟩
   have H5:=ab ((aa H4).up lr)
   have Jq:=ab ((aa se).trans (aD b lr))
   clear lr H4 se x0 x1 x2
   cases yJ:aJ ⟨kd,sp,tx⟩ 1 ⟨#[119,101,97,107]⟩ with
   |true =>
    have sg:=ab (aa HEq false true (aa X7) yJ)
    clear yJ HEq
    go_wp2_with fail
    refine (kS (aa H5)).mono ?_
    rintro e w6 ⟨rfl,Qt⟩
    refine ⟨rfl,?_⟩
    rw[aa sg,Bool.or_true,if_pos rfl]
    exact ⟨rfl,(aa Jq).trans (aD b Qt)⟩
   |false =>
    have sg:Hid (bq s=(match bB dO s2 with|.error e=>.error e|.ok (x,s3)=>match au ⟨#[59]⟩ s3 with|.error e=>.error e|.ok (_,s4)=>.ok (x,s4))):=by
     have:=aa HEq false false (aa X7) yJ
     rw[Bool.or_false,if_neg (by simp)] at this
     exact this
    have HM:=ab (qd ((aa Hv).step (aa Jq)) (aa H5))
    clear yJ HEq
    go_wp2_with fail
    refine (aa HM).mono ?_
    intro e w6 hw
    rcases hw.split with ⟨y,hr,rfl,hg⟩|⟨x,s6,hr,rfl,h6,hg⟩
    ·refine ⟨rfl,?_⟩
     rw[aa sg,hr]
     exact ⟨rfl,(aa Jq).trans hg⟩
    ·have WH:=ab hr
     have HG6:=ab ((aa Jq).trans hg)
     have HN:=ab (dw h6 ⟨#[59]⟩)
     clear hw hr hg h6 HM H5
     go_wp2_with fail
     refine (aa HN).mono ?_
     intro e w7 hw
     rcases hw.split with ⟨y,hr,rfl,hg⟩|⟨_,s7,hr,rfl,h7,hg⟩
     ·refine ⟨rfl,?_⟩
      rw[aa sg,aa WH]
      simp only
      rw[hr]
      exact ⟨rfl,(aa HG6).trans hg⟩
     ·have HE:Hid (PR lb b W Value.string (bq s) (.returned (.string x)) w7):=by
       show PR lb b W Value.string (bq s) _ _
       rw[aa sg,aa WH]
       simp only
       rw[hr]
       exact ⟨rfl,h7,(aa HG6).trans hg⟩
      clear hw hr hg h7
      go_wp2
      go_ret
      exact aa HE
end Go.Proofs.YtjophoclfccmcaaGreatDoor
namespace Go.Proofs.YtjophoclfccmcaaGreatDoor
open Go.RowKit
section
variable {P : Program} {ops : Array Oper} {Q : Exit → Act → World → Prop} {md : Region.Mode}
theorem qY {d:Array Bool}{i:Nat} (h:i ∈ Region.ready md ops d):∃hi:i<d.size,d[i]=false:=by
 have h1:=(mem_ready.1 h).1
 rcases Nat.lt_or_ge i d.size with hi|hi
 ·refine ⟨hi,?_⟩
  simpa[hi] using h1
 ·simp[Array.getElem?_eq_none hi] at h1
theorem sk (I:Array Bool→Act→World→Prop) (step:∀d a w i,I d a w→i ∈ Region.ready md ops d→wpOp P ops Q i (fun a' w'=>I (d.setIfInBounds i true) a' w') a w) (fin:∀d a w,I d a w→Region.ready md ops d=[]→Q .normal a w) :
  ∀(n:Nat) (d:Array Bool) (a:Act) (w:World),I d a w→d.count false≤n→wpAny P md ops Q n d a w
 |0,d,a,w,hI,hn=>by
  have hr:Region.ready md ops d=[]:=by
   apply List.eq_nil_iff_forall_not_mem.2
   intro i hi
   obtain ⟨h1,h2⟩:=qY hi
   have h3:0<d.count false:=Array.count_pos_iff.2 (by rw[←h2];exact Array.getElem_mem h1)
   omega
  exact ⟨hr,fin d a w hI hr⟩
 |n+1,d,a,w,hI,hn=>by
  refine ⟨fun hr=>fin d a w hI hr,fun i hi=>?_⟩
  refine wpOp_mono (fun a' w' h'=>sk I step fin n _ a' w' h' ?_) (step d a w i hI hi)
  obtain ⟨h1,h2⟩:=qY hi
  have h3:0<d.count false:=Array.count_pos_iff.2 (by rw[←h2];exact Array.getElem_mem h1)
  rw[Array.setIfInBounds_def,dif_pos h1,Array.count_set h1,h2]
  simp
  omega
theorem aK {α:Type}{d:Array α}{i j:Nat}{x z:α} (h:i≠j):(d.setIfInBounds i x).getD j z=d.getD j z:=by
 simp[Array.getD_eq_getD_getElem?,h]
theorem cn {α:Type}{d:Array α}{i:Nat}{x z:α} (h:i<d.size):(d.setIfInBounds i x).getD i z=x:=by
 simp[h]
theorem I5 {d:Array Bool}{i:Nat}{o:Oper} (ck:i<d.size) (hr:Region.ready md ops d=[]) (ho:ops[i]?=some o) (ZW:∀e ∈ o.after,Region.binds md e=true→d.getD e.on false=true):d.getD i false=true:=by
 by_cases h:d.getD i true=false
 ·have:i ∈ Region.ready md ops d:=mem_ready.2 ⟨h,o,ho,ZW⟩
  rw[hr] at this
  cases this
 ·simp[ck] at h ⊢
  exact h
def lM (ops:Array Oper) (i k:Nat):Prop:=∃o,ops[i]?=some o∧∃e ∈ o.after,Region.binds .any e=true∧e.on=k
def fG (ops:Array Oper) (i k:Nat):Bool:=match ops[i]? with
 |some o=>o.after.any fun e=>Region.binds .any e&&e.on==k
 |none=>false
theorem eQ {i k:Nat} (h:fG ops i k=true):lM ops i k:=by
 unfold fG at h
 cases ho:ops[i]? with
 |none=>rw[ho] at h;cases h
 |some o =>
  rw[ho] at h
  simp only[Array.any_eq_true] at h
  obtain ⟨j,hj,h2⟩:=h
  rw[Bool.and_eq_true] at h2
  exact ⟨o,ho,o.after[j],Array.getElem_mem hj,h2.1,eq_of_beq h2.2⟩
def Jg (ops:Array Oper) (n:Nat):Bool:=(List.range n).all fun i=>match ops[i]? with
 |some o=>o.after.all fun e=>decide (e.on<i)
 |none=>true
theorem Jf {n:Nat} (hn:ops.size=n) (h:Jg ops n=true):∀(i:Nat) (o:Oper),ops[i]?=some o→∀e ∈ o.after,e.on<i:=by
 intro i o ho e he
 have hi:i<n:=by rw[←hn];exact (zA ho).1
 have h1:=List.all_eq_true.1 h i (List.mem_range.2 hi)
 rw[ho] at h1
 simp only[Array.all_eq_true] at h1
 obtain ⟨j,hj,rfl⟩:=Array.getElem_of_mem he
 exact of_decide_eq_true (h1 j hj)
def aan (ops:Array Oper) (z:Nat):Bool:=(List.range z).all fun i=>fG ops z i ||(List.range z).any fun j=>fG ops z j&&fG ops j i
theorem OY {z:Nat} (h:aan ops z=true):∀D:Nat→Prop,(∀k j,D k→lM ops k j→D j)→(∀j,lM ops z j→D j)→∀i,i<z→D i:=by
 intro D iL hD i hi
 have h1:=List.all_eq_true.1 h i (List.mem_range.2 hi)
 rw[Bool.or_eq_true] at h1
 rcases h1 with h1|h1
 ·exact hD i (eQ h1)
 ·obtain ⟨j,_,h2⟩:=List.any_eq_true.1 h1
  rw[Bool.and_eq_true] at h2
  exact iL j i (hD j (eQ h2.1)) (eQ h2.2)
theorem du {id z N c:Nat} (RU:P.follows .mixedOrders=true) (s:Nat→Nat) (val:Nat→Value) (Φ:Nat→Value→World→Prop) (iP:Array Value) (w0:World)
  (hn:ops.size=z+1) (hN:iP.size=N) (Ok:∀i j,i<z→j<z→s i=s j→i=j) (hs:∀i,i<z→s i<N) (D0:Jg ops (z+1)=true)
  (hc:c+2<z) (w1:fG ops (c+1) c=true) (w2:fG ops (c+2) (c+1)=true) (hz:aan ops z=true) (h0:Φ 0 undef w0.drew)
  (quiet:∀k tm w,k<z→(k<c∨c+2<k)→tm.size=N→(∀j,(∀i,i<z→s i≠j)→tm.getD j undef=iP.getD j undef)→(∀j,(j<c∨c+2<j)→fG ops k j=true→tm.getD (s j) undef=val j)→(∃ph x,Φ ph x w) →
   wpOp P ops Q k (fun a' w'=>a'=⟨tm.setIfInBounds (s k) (val k),[]⟩∧w'=w) ⟨tm,[]⟩ w)
  (call:∀tm w,tm.size=N→(∀j,(∀i,i<z→s i≠j)→tm.getD j undef=iP.getD j undef)→(∀j,(j<c∨c+2<j)→fG ops c j=true→tm.getD (s j) undef=val j)→Φ 0 undef w→wpOp P ops Q c (fun a' w'=>∃x,a'=⟨tm.setIfInBounds (s c) x,[]⟩∧Φ 1 x w') ⟨tm,[]⟩ w)
  (bs:∀tm w x,tm.size=N→tm.getD (s c) undef=x→Φ 1 x w→wpOp P ops Q (c+1) (fun a' w'=>∃y,a'=⟨tm.setIfInBounds (s (c+1)) y,[]⟩∧Φ 2 y w') ⟨tm,[]⟩ w)
  (ap:∀tm w y,tm.size=N→(∀j,(j<c∨c+2<j)→fG ops (c+2) j=true→tm.getD (s j) undef=val j)→tm.getD (s (c+1)) undef=y→Φ 2 y w→wpOp P ops Q (c+2) (fun a' w'=>∃y',a'=⟨tm.setIfInBounds (s (c+2)) y',[]⟩∧Φ 3 y' w') ⟨tm,[]⟩ w)
  (last:∀tm w y,tm.size=N→(∀j,(∀i,i<z→s i≠j)→tm.getD j undef=iP.getD j undef)→(∀j,j<z→(j<c∨c+2<j)→tm.getD (s j) undef=val j)→tm.getD (s (c+2)) undef=y→Φ 3 y w→wpOp P ops Q z (fun a' w'=>Q .normal a' w') ⟨tm,[]⟩ w) :
  (Code.region id ops true).wp P Q ⟨iP,[]⟩ w0:=by
 have hb:=Jf hn D0
 have W1:=eQ w1
 have W2:=eQ w2
 refine wp_region_any RU (sk (md:=.any) (fun d a w=>d.size=z+1∧(∀k j,d.getD k false=true→lM ops k j→d.getD j false=true)∧((d.getD z false=false∧∃tm,a=⟨tm,[]⟩∧tm.size=N∧(∀j,(∀i,i<z→s i≠j)→tm.getD j undef=iP.getD j undef)∧(∀k,k<z→(k<c∨c+2<k)→d.getD k false=true→tm.getD (s k) undef=val k) ∧
   ((d.getD c false=false∧Φ 0 undef w)∨(d.getD c false=true∧d.getD (c+1) false=false∧Φ 1 (tm.getD (s c) undef) w)∨(d.getD (c+1) false=true∧d.getD (c+2) false=false∧Φ 2 (tm.getD (s (c+1)) undef) w)∨(d.getD (c+2) false=true∧Φ 3 (tm.getD (s (c+2)) undef) w))) ∨
   (d.getD z false=true∧Q .normal a w))) ?_ ?_ _ _ _ _ ?_ ?_)
 ·rintro d a w i ⟨hd,iL,Oo⟩ hr
  obtain ⟨hi,uh⟩:=qY hr
  obtain ⟨_,o,ho,ij⟩:=mem_ready.1 hr
  have jM:d.getD i false=false:=by simp[hi,uh]
  have hw:∀k,lM ops i k→d.getD k false=true:=by
   rintro k ⟨o',BU,e,he,hb,rfl⟩
   rw[ho] at BU
   obtain rfl:=zC BU
   exact ij e he hb
  have DY:∀k j,(d.setIfInBounds i true).getD k false=true→lM ops k j→(d.setIfInBounds i true).getD j false=true:=by
   intro k j hk hj
   by_cases e:j=i
   ·subst e
    exact cn hi
   ·rw[aK (Ne.symm e)]
    by_cases e2:k=i
    ·subst e2
     exact hw j hj
    ·rw[aK (Ne.symm e2)] at hk
     exact iL k j hk hj
  have iV:(d.setIfInBounds i true).size=z+1:=by rw[Array.size_setIfInBounds];exact hd
  rcases Oo with ⟨F',tm,rfl,h1,h2,h3,h4⟩|⟨F',hq⟩
  rotate_left
  ·exfalso
   have RY:i<z:=by
    rcases Nat.lt_or_ge i z with q|q
    ·exact q
    ·obtain rfl:i=z:=by omega
     rw[F'] at jM;cases jM
   have:=OY hz (fun k=>d.getD k false=true) iL (fun j hj=>iL _ _ F' hj) i RY
   rw[this] at jM;cases jM
  by_cases RY:i=z
  ·subst RY
   have km:=OY hz (fun k=>d.getD k false=true) iL hw
   have h5:Φ 3 (tm.getD (s (c+2)) undef) w:=by
    rcases h4 with ⟨q,_⟩|⟨_,q,_⟩|⟨_,q,_⟩|⟨_,q⟩
    ·rw[km c (by omega)] at q;cases q
    ·rw[km (c+1) (by omega)] at q;cases q
    ·rw[km (c+2) (by omega)] at q;cases q
    ·exact q
   refine wpOp_mono ?_ (last tm w _ h1 h2 (fun j hj hq=>h3 j hj hq (km j hj)) rfl h5)
   intro a' w' hq
   exact ⟨iV,DY,.inr ⟨cn hi,hq⟩⟩
  ·have BV:i<z:=by omega
   have hz':(d.setIfInBounds i true).getD z false=false:=by rw[aK RY];exact F'
   have cA:∀x:Value,∀j,(∀i,i<z→s i≠j)→(tm.setIfInBounds (s i) x).getD j undef=iP.getD j undef:=fun x j hj=>by rw[aK (hj i BV)];exact h2 j hj
   have jL:∀(x:Value) k,k<z→k≠i→(tm.setIfInBounds (s i) x).getD (s k) undef=tm.getD (s k) undef:=fun x k hk dV=>aK (fun q=>dV (Ok i k BV hk q).symm)
   by_cases DT:i<c∨c+2<i
   ·refine wpOp_mono ?_ (quiet i tm w BV DT h1 h2 (fun j hjq hj=>h3 j (by have:=hb i o ho;obtain ⟨o',BU,e,he,_,rfl⟩:=eQ hj;rw[ho] at BU;obtain rfl:=zC BU;have:=this e he;omega) hjq (hw j (eQ hj))) (by rcases h4 with ⟨_,q⟩|⟨_,_,q⟩|⟨_,_,q⟩|⟨_,q⟩<;>exact ⟨_,_,q⟩))
    rintro a' w' ⟨rfl,rfl⟩
    refine ⟨iV,DY,.inl ⟨hz',_,rfl,by rw[Array.size_setIfInBounds];exact h1,cA _,fun k hk hkq ZV=>?_,?_⟩⟩
    ·by_cases e:k=i
     ·subst e
      exact cn (by rw[h1];exact hs k hk)
     ·rw[aK (Ne.symm e)] at ZV
      rw[jL _ k hk e]
      exact h3 k hk hkq ZV
    ·rw[aK (show i≠c by omega),aK (show i≠c+1 by omega),aK (show i≠c+2 by omega),jL _ c (by omega) (by omega),jL _ (c+1) (by omega) (by omega),jL _ (c+2) (by omega) (by omega)]
     exact h4
   ·have AW:∀x:Value,∀k,k<z→(k<c∨c+2<k)→(d.setIfInBounds i true).getD k false=true→(tm.setIfInBounds (s i) x).getD (s k) undef=val k:=fun x k hk hkq ZV=>by
     rw[aK (show i≠k by omega)] at ZV
     rw[jL _ k hk (by omega)]
     exact h3 k hk hkq ZV
    have a8:∀j,(j<c∨c+2<j)→fG ops i j=true→tm.getD (s j) undef=val j:=fun j hjq hj=>h3 j (by have:=hb i o ho;obtain ⟨o',BU,e,he,_,rfl⟩:=eQ hj;rw[ho] at BU;obtain rfl:=zC BU;have:=this e he;omega) hjq (hw j (eQ hj))
    rcases (show i=c∨i=c+1∨i=c+2 by omega) with rfl|rfl|rfl
    ·rcases h4 with ⟨_,q⟩|⟨q,_⟩|⟨q,_⟩|⟨q,_⟩
     ·refine wpOp_mono ?_ (call tm w h1 h2 a8 q)
      rintro a' w' ⟨x,rfl,hx⟩
      refine ⟨iV,DY,.inl ⟨hz',_,rfl,by rw[Array.size_setIfInBounds];exact h1,cA _,AW x,.inr (.inl ⟨cn hi,?_,?_⟩)⟩⟩
      ·rw[aK (by omega)]
       apply Bool.eq_false_iff.2
       intro q2
       rw[iL _ _ q2 W1] at jM;cases jM
      ·rw[cn (by rw[h1];exact hs _ BV)]
       exact hx
     ·rw[q] at jM;cases jM
     ·rw[iL _ _ q W1] at jM;cases jM
     ·rw[iL _ _ (iL _ _ q W2) W1] at jM;cases jM
    ·rcases h4 with ⟨q,_⟩|⟨_,_,q⟩|⟨q,_⟩|⟨q,_⟩
     ·rw[hw _ W1] at q;cases q
     ·refine wpOp_mono ?_ (bs tm w _ h1 rfl q)
      rintro a' w' ⟨x,rfl,hx⟩
      refine ⟨iV,DY,.inl ⟨hz',_,rfl,by rw[Array.size_setIfInBounds];exact h1,cA _,AW x,.inr (.inr (.inl ⟨cn hi,?_,?_⟩))⟩⟩
      ·rw[aK (by omega)]
       apply Bool.eq_false_iff.2
       intro q2
       rw[iL _ _ q2 W2] at jM;cases jM
      ·rw[cn (by rw[h1];exact hs _ BV)]
       exact hx
     ·rw[q] at jM;cases jM
     ·rw[iL _ _ q W2] at jM;cases jM
    ·rcases h4 with ⟨q,_⟩|⟨_,q,_⟩|⟨_,_,q⟩|⟨q,_⟩
     ·rw[iL _ _ (hw _ W2) W1] at q;cases q
     ·rw[hw _ W2] at q;cases q
     ·refine wpOp_mono ?_ (ap tm w _ h1 a8 rfl q)
      rintro a' w' ⟨x,rfl,hx⟩
      refine ⟨iV,DY,.inl ⟨hz',_,rfl,by rw[Array.size_setIfInBounds];exact h1,cA _,AW x,.inr (.inr (.inr ⟨cn hi,?_⟩))⟩⟩
      rw[cn (by rw[h1];exact hs _ BV)]
      exact hx
     ·rw[q] at jM;cases jM
 ·rintro d a w ⟨hd,iL,⟨F',_⟩|⟨_,hq⟩⟩ hr
  ·exfalso
   have ij:∀m i,i<m→i<z+1→d.getD i false=true:=by
    intro m
    induction m with
    |zero=>intro i hi;omega
    |succ m ih =>
     intro i hi TD
     obtain ⟨o,ho⟩:∃o,ops[i]?=some o:=⟨_,Array.getElem?_eq_getElem (by omega)⟩
     exact I5 (by omega) hr ho fun e he _=>ih e.on (by have:=hb i o ho e he;omega) (by have:=hb i o ho e he;omega)
   rw[ij (z+1) z (by omega) (by omega)] at F';cases F'
  ·exact hq
 ·have DS:∀k,(Array.replicate ops.size false).getD k false=false:=fun k=>by
   simp[Array.getD_eq_getD_getElem?,Array.getElem?_replicate]
   split<;>simp
  refine ⟨by simp[hn],fun k j hk _=>(by rw[DS k] at hk;cases hk),.inl ⟨DS z,iP,rfl,hN,fun _ _=>rfl,fun k _ _ hk=>(by rw[DS k] at hk;cases hk),.inl ⟨DS c,h0⟩⟩⟩
 ·simp
theorem nW {i:Nat}{o:Oper}{a:Act}{w w':World}{K:Act→World→Prop}{v:Value} (ho:ops[i]?=some o) (hg:o.guard=none) (hr:(execOp a.eval o).run P w=.ok (.value v) w') (hK:K (a.put o.dst v) w'):wpOp P ops Q i K a w:=by
 refine wpOp_step ho (fun K' Z9=>?_)
 have hw:Region.wanted o (yielded ops a.tmps)=true:=by simp[Region.wanted,hg]
 rw[if_pos hw]
 unfold Oper.wp
 rw[hr]
 exact Z9 _ _ hK
theorem Q' {i:Nat}{o:Oper}{a:Act}{w w':World}{K:Act→World→Prop} (ho:ops[i]?=some o) (hg:o.guard=none) (hr:(execOp a.eval o).run P w=.ok .skip w') (hK:K (a.put o.dst undef) w'):wpOp P ops Q i K a w:=by
 refine wpOp_step ho (fun K' Z9=>?_)
 have hw:Region.wanted o (yielded ops a.tmps)=true:=by simp[Region.wanted,hg]
 rw[if_pos hw]
 unfold Oper.wp
 rw[hr]
 exact Z9 _ _ hK
theorem cF {i:Nat}{o:Oper}{a:Act}{w:World}{K:Act→World→Prop} (ho:ops[i]?=some o) (hg:o.guard=none) (f:FuncId) (qJ:∀vs,(callFunc f vs).run P w=.ok (.enter f vs) w) (args:Array Operand) (Lv:Array TypeId)
  (jU:o.op=.call { callee:=.value (.func f),args:=args,argTypes:=Lv }) (vs:Array Value) (hv:args.map a.eval=vs) {R:Ending→World→Prop} (hc:Calls P f vs w R) (hK:∀e w',R e w'→(∃v,e=.returned v∧K (a.put o.dst v) w')∨∃ch,e=.panicked ch∧Q (.panic ch) a w'):wpOp P ops Q i K a w:=by
 refine wpOp_step ho (fun K' Z9=>?_)
 have hw:Region.wanted o (yielded ops a.tmps)=true:=by simp[Region.wanted,hg]
 rw[if_pos hw]
 have h2:Oper.wp P o a w K' Q=o.upon P a K' Q (.ok (.enter f vs) w):=by
  unfold Oper.wp
  simp[execOp,jU,resolve,invoke,←hv,Act.eval,Deferred.ofValue,qJ]
 rw[h2,Oper.upon_enter]
 refine hc.mono ?_
 intro e w' hr
 rcases hK e w' hr with ⟨v,rfl,hk⟩|⟨ch,rfl,hq⟩
 ·exact Z9 _ _ hk
 ·exact hq
theorem Il {S:Sem Value}{w w':World}{v:Value} (h:S.run P w=.ok v w'):((do pure (Next.value (←S))):Sem Next).run P w=.ok (.value v) w':=by
 simp[h]
theorem aY {i:Nat}{o:Oper}{a:Act}{w w':World}{K:Act→World→Prop}{v vx:Value} (ho:ops[i]?=some o) (hg:o.guard=none) (t:TypeId) (x:Operand) (jU:o.op=.load t x) (ex:a.eval x=vx) (hr:(Instr.loadAt t vx).run P w=.ok v w') (hK:K (a.put o.dst v) w'):wpOp P ops Q i K a w :=
 nW ho hg (by simp only[execOp,jU,ex,Sem.run_pure,Sem.run_bind,hr,Result.andThen_ok]) hK
end
end Go.Proofs.YtjophoclfccmcaaGreatDoor

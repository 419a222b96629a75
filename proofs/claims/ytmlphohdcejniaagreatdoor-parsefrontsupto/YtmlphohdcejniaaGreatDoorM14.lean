import Derived.Test.YtmlphohdcejniaaGreatDoorM13
import Derived.Orders
import Derived.RegionTactic
set_option maxHeartbeats 8000000
set_option maxRecDepth 100000
namespace Go.Proofs.YtmlphohdcejniaaGreatDoor
open Go.RowKit Go.Shelf
attribute [local go_sem ↓] Go.wp_at_zero Go.wp_at_succ
theorem xv {lb b:Nat}{V W:World}{s:aD} (hv:Env V W b) (h:Rd lb W b s) (hs:Sm s) (hn:s.ts.length≤16384) (hp:0<s.ts.length):Calls Tryz.prog 161 #[.pointer (some ⟨b,0,none⟩)] W (PR lb b W Fd.val (ca s)):=by
 have eQ:=h.low
 have bJ:Below W.heap.size W (W.alloc (.cells #[.int .i64 0,.string ⟨#[]⟩,.string ⟨#[]⟩,.string ⟨#[]⟩,.int .i64 0,.int .i64 0] 70)):=(zE _ _).alloc (zD _) _
 have hM:Mw lb b W.heap.size V W s s (W.alloc (.cells #[.int .i64 0,.string ⟨#[]⟩,.string ⟨#[]⟩,.string ⟨#[]⟩,.int .i64 0,.int .i64 0] 70)):=⟨h.up bJ,hv.step (aA b bJ),aC _ _,aA b bJ,⟨eQ.2,rfl,eQ.1⟩,.refl _⟩
 have hc:=aj (AU (n:=1) hM.rd (by omega))
 have HM:=aj hM
 have HS:=aj hs
 clear h hv hs bJ hM
 have hI:Hid (∀w,Calls Tryz.prog 118 #[(s.ahead 1).val,.int .i64 4,.string ⟨#[60]⟩] w fun e w'=>e=.returned (.bool (cZ (s.ahead 1) 4 ⟨#[60]⟩))∧Below w.heap.size w w'):=fun w=>rP w (s.ahead 1) 4 _
 have OX:Hid (∃p q r,(s.ahead 1).val=.agg #[p,q,r]):=⟨_,_,_,rfl⟩
 obtain ⟨p,q,r,EP⟩:=aa OX
 rw[EP] at hI hc
 clear OX EP
 go_enter Tryz.func161,Tryz.ntmps161
 go_wp2_with fail
 refine (aa hc).mono ?_
 rintro e w1 ⟨rfl,bF⟩
 have HM1:=aj ((aa HM).up bF)
 clear bF hc HM
 go_wp2_with fail
 refine (aa hI w1).mono ?_
 rintro e w2 ⟨rfl,bJ⟩
 have KX:=aj ((aa HM1).up bJ)
 clear bJ hI HM1
 cases KM:cZ (s.ahead 1) 4 ⟨#[60]⟩ with
 |false =>
  have vh:Hid (ca s=eN 0 s):=by show _=_;unfold ca;rw[if_neg (by rw[KM];simp)]
  have HC:=aj (rG 0 (aa KX).env (aa KX).rd (aa HS) hn)
  clear KM
  go_wp2_with fail
  refine (aa HC).mono ?_
  intro e w3 hw
  rcases hw.split with ⟨y,hr,rfl,hg⟩|⟨d2,s3,hr,rfl,h3,hg⟩
  ·refine ⟨rfl,?_⟩
   rw[aa vh,hr]
   exact ⟨rfl,(aa KX).gr.trans hg⟩
  ·obtain ⟨c9,k9,t9,n9,m9,o9⟩:=d2
   have YJ:=(aa KX).lw
   have U1:Mw lb b W.heap.size V W s3 s3 w3:=⟨h3,(aa KX).env.step hg,(hg.block W.heap.size (zA (aa KX).rs).1 (by simp;omega)).trans (aa KX).rs,(aa KX).gr.trans hg,YJ,.refl _⟩
   have nr:ca s=.ok (⟨c9,k9,t9,n9,m9,o9⟩,s3):=(aa vh).trans hr
   unfold Fd.val Fd.arr
   simp only
   clear hw hr hg h3 HC vh KX
   obtain ⟨d1,d2⟩:=U1.done ⟨c9,k9,t9,n9,m9,o9⟩ nr
   obtain ⟨⟨v0,v1,v2,v3,v4,v5⟩,vf⟩:=iT U1.rs
   have e0:=vf 0
   have e1:=vf 1
   have e2:=vf 2
   have e3:=vf 3
   have e4:=vf 4
   have e5:=vf 5
   have D1:=aj d1
   have D2:=aj d2
   unfold oD Fd.val Fd.arr at D1
   unfold oD at D2
   simp only at D1 D2
   clear d1 d2 vf nr U1
   go_wp2
   exact bodyPost_ret (results_cell_row rfl _ _ W.heap.size 70 #[.int .i64 c9,.string k9,.string t9,.string n9,.int .i64 m9,.int .i64 o9] (0,0) _ rfl (aa D2) Tryz.underlying70 rfl nY) rfl (aa D1)
 |true =>
  have vh:Hid (ca s=tj s):=by show _=_;unfold ca;rw[if_pos KM]
  clear KM
  go_wp2_with fail
  refine (fD (aa KX).rd).mono ?_
  rintro e w3 ⟨rfl,h3,fB⟩
  have Sj:Hid (Mw lb b W.heap.size V W s s.begun w3):=(aa KX).step h3 fB ⟨0,rfl,rfl,rfl⟩
  clear h3 fB KX
  go_wp2_with fail
  refine (dr (aa Sj).rd hp).mono ?_
  intro e w4 hw
  rcases hw.split with ⟨y,hr,rfl,hg⟩|⟨_,s4,hr,rfl,h4,hg⟩
  ·refine ⟨rfl,?_⟩
   rw[aa vh]
   unfold tj
   rw[hr]
   exact ⟨rfl,(aa Sj).gr.trans hg⟩
  ·have Si:Hid (Mw lb b W.heap.size V W s s4 w4):=(aa Sj).step h4 hg ⟨1,by rw[oe hr,List.drop_one],mJ hr⟩
   have R9:=aj hr
   clear hw hr hg h4 Sj
   go_wp2_with fail
   refine (de (aa Si).rd _).mono ?_
   intro e w5 hw
   rcases hw.split with ⟨y,hr,rfl,hg⟩|⟨_,s5,hr,rfl,h5,hg⟩
   ·refine ⟨rfl,?_⟩
    rw[aa vh]
    unfold tj
    rw[aa R9]
    simp only
    rw[hr]
    exact ⟨rfl,(aa Si).gr.trans hg⟩
   ·have O6:=aj ((aa Si).step h5 hg (bR hr))
    have ZS:=aj hr
    clear hw hr hg h5 Si
    have hl5:=(aa O6).sf.len
    go_wp2_with fail
    refine (mT true (aa O6).rd ((aa O6).sf.sm (aa HS)) (by omega)).mono ?_
    intro e w6 hw
    rcases hw.split with ⟨y,hr,rfl,hg⟩|⟨kx,s6,hr,rfl,h6,hg⟩
    ·refine ⟨rfl,?_⟩
     rw[aa vh]
     unfold tj
     rw[aa R9]
     simp only
     rw[aa ZS]
     simp only
     rw[hr]
     exact ⟨rfl,(aa O6).gr.trans hg⟩
    ·have hM6:=(aa O6).step h6 hg (fR hr)
     have VT:=aj hr
     have aaS:W.heap.size<w6.heap.size:=(zA hM6.rs).1
     have HM7:=aj (hM6.up ((zE _ w6).alloc (zD _) (.cells #[.int .i64 4,.string kx,.string ⟨#[]⟩,.string ⟨#[]⟩,.int .i64 0,.int .i64 0] 70)))
     have xQ:=hM6.lw
     have HD7:Hid ((w6.alloc (.cells #[.int .i64 4,.string kx,.string ⟨#[]⟩,.string ⟨#[]⟩,.int .i64 0,.int .i64 0] 70)).heap[w6.heap.size]?=some (.cells #[.int .i64 4,.string kx,.string ⟨#[]⟩,.string ⟨#[]⟩,.int .i64 0,.int .i64 0] 70 (0,0))):=aC _ _
     clear hw hr hg h6 O6 hM6 hl5
     go_wp2_with fail
     refine (de (aa HM7).rd _).mono ?_
     intro e w8 hw
     rcases hw.split with ⟨y,hr,rfl,hg⟩|⟨_,s8,hr,rfl,h8,hg⟩
     ·refine ⟨rfl,?_⟩
      rw[aa vh]
      unfold tj
      rw[aa R9]
      simp only
      rw[aa ZS]
      simp only
      rw[aa VT]
      simp only
      rw[hr]
      exact ⟨rfl,(aa HM7).gr.trans hg⟩
     ·have Xe:=aj ((aa HM7).step h8 hg (bR hr))
      have HD8:=aj ((hg.block w6.heap.size (zA (aa HD7)).1 (by simp;omega)).trans (aa HD7))
      have Hr8:=aj hr
      clear hw hr hg h8 HM7 HD7
      have hl8:=(aa Xe).sf.len
      go_wp2_with fail
      refine (mT true (aa Xe).rd ((aa Xe).sf.sm (aa HS)) (by omega)).mono ?_
      intro e w9 hw
      rcases hw.split with ⟨y,hr,rfl,hg⟩|⟨tx,s9,hr,rfl,h9,hg⟩
      ·refine ⟨rfl,?_⟩
       rw[aa vh]
       unfold tj
       rw[aa R9]
       simp only
       rw[aa ZS]
       simp only
       rw[aa VT]
       simp only
       rw[aa Hr8]
       simp only
       rw[hr]
       exact ⟨rfl,(aa Xe).gr.trans hg⟩
      ·have hM9:=(aa Xe).step h9 hg (fR hr)
       have hD9:=(hg.block w6.heap.size (zA (aa HD8)).1 (by simp;omega)).trans (aa HD8)
       obtain ⟨⟨y0,y1,y2,y3,y4,y5⟩,yf⟩:=iT hD9
       have f2:=yf 2
       obtain ⟨q1,g1⟩:=aJ (j:=2) hD9 (.string tx)
       simp only[zN,zM] at q1
       have Sk:=aj (hM9.new g1 aaS)
       have We:=aj q1
       have Hr9:=aj hr
       clear hw hr hg h9 Xe HD8 hM9 hD9 yf q1 g1 hl8
       go_wp2_with fail
       refine (de (aa Sk).rd _).mono ?_
       intro e w11 hw
       rcases hw.split with ⟨y,hr,rfl,hg⟩|⟨_,s11,hr,rfl,h11,hg⟩
       ·refine ⟨rfl,?_⟩
        rw[aa vh]
        unfold tj
        rw[aa R9]
        simp only
        rw[aa ZS]
        simp only
        rw[aa VT]
        simp only
        rw[aa Hr8]
        simp only
        rw[aa Hr9]
        simp only
        rw[hr]
        exact ⟨rfl,(aa Sk).gr.trans hg⟩
       ·have NA:=(aa Sk).step h11 hg (bR hr)
        have Zl:=(hg.block w6.heap.size (zA (aa We)).1 (by simp;omega)).trans (aa We)
        obtain ⟨⟨u0,u1,u2,u3,u4,u5⟩,_⟩:=iT Zl
        have Wa:Hid (ca s=Dx ⟨4,kx,tx,⟨#[]⟩,0,0⟩ s11):=by
         show _=_
         rw[aa vh]
         unfold tj
         rw[aa R9]
         simp only
         rw[aa ZS]
         simp only
         rw[aa VT]
         simp only
         rw[aa Hr8]
         simp only
         rw[aa Hr9]
         simp only
         rw[hr]
        have GD:=aj NA
        have HC:=aj (Mm ⟨4,kx,tx,⟨#[]⟩,0,0⟩ NA.env NA.rd (NA.sf.sm (aa HS)))
        unfold Fd.val Fd.arr at HC
        simp only at HC
        clear hw hr hg h11 Sk We NA Zl y0 y1 y2 y3 y4 y5 f2
        go_wp2_with fail
        refine (aa HC).mono ?_
        intro e w12 hw
        rcases hw.split with ⟨y,hr,rfl,hg⟩|⟨d2,s12,hr,rfl,h12,hg⟩
        ·refine ⟨rfl,?_⟩
         rw[aa Wa,hr]
         exact ⟨rfl,(aa GD).gr.trans hg⟩
        ·obtain ⟨c9,k9,t9,n9,m9,o9⟩:=d2
         have YJ:=(aa GD).lw
         have U1:Mw lb b W.heap.size V W s12 s12 w12:=⟨h12,(aa GD).env.step hg,(hg.block W.heap.size (zA (aa GD).rs).1 (by simp;omega)).trans (aa GD).rs,(aa GD).gr.trans hg,YJ,.refl _⟩
         have nr:ca s=.ok (⟨c9,k9,t9,n9,m9,o9⟩,s12):=(aa Wa).trans hr
         simp only
         clear hw hr hg h12 HC Wa vh GD u0 u1 u2 u3 u4 u5
         obtain ⟨d1,d2⟩:=U1.done ⟨c9,k9,t9,n9,m9,o9⟩ nr
         obtain ⟨⟨v0,v1,v2,v3,v4,v5⟩,vf⟩:=iT U1.rs
         have e0:=vf 0
         have e1:=vf 1
         have e2:=vf 2
         have e3:=vf 3
         have e4:=vf 4
         have e5:=vf 5
         have D1:=aj d1
         have D2:=aj d2
         unfold oD Fd.val Fd.arr at D1
         unfold oD at D2
         simp only at D1 D2
         clear d1 d2 vf nr U1
         go_wp2
         exact bodyPost_ret (results_cell_row rfl _ _ W.heap.size 70 #[.int .i64 c9,.string k9,.string t9,.string n9,.int .i64 m9,.int .i64 o9] (0,0) _ rfl (aa D2) Tryz.underlying70 rfl nY) rfl (aa D1)
noncomputable def dw (s:aD):Except (Int×Int) (ByteArray×aD):=match bE s.begun with
 |.error e=>.error e
 |.ok (_,s1)=>if (cZ s1.here 1 ⟨#[112,117,98,108,105,99]⟩ ||cZ s1.here 1 ⟨#[119,101,97,107]⟩)=true then .error (52,s1.here.spot) else match bO fh s1 with
  |.error e=>.error e
  |.ok (x,s2)=>match aV ⟨#[59]⟩ s2 with
   |.error e=>.error e
   |.ok (_,s3)=>.ok (x,s3)
theorem BH {lb b:Nat}{V W:World}{s:aD} (hv:Env V W b) (h:Rd lb W b s) (hp:0<s.ts.length):Calls Tryz.prog 99 #[.pointer (some ⟨b,0,none⟩)] W (PR lb b W Value.string (dw s)):=by
 have hc:=aj (fD h)
 have Hv:=aj hv
 clear h hv
 go_enter Tryz.func99,Tryz.ntmps99
 go_wp2_with fail
 refine (aa hc).mono ?_
 rintro e w1 ⟨rfl,h1,kV⟩
 have HN:=aj (dr h1 hp)
 have qT:=aj kV
 clear h1 kV hc
 go_wp2_with fail
 refine (aa HN).mono ?_
 intro e w2 hw
 rcases hw.split with ⟨y,hr,rfl,hg⟩|⟨_,s2,hr,rfl,h2,hg⟩
 ·refine ⟨rfl,?_⟩
  unfold dw
  rw[hr]
  exact ⟨rfl,(aa qT).trans hg⟩
 ·have PF:=aj hr
  have H2:=aj h2
  have Ti:=aj ((aa qT).trans hg)
  clear hw hr hg h2 HN qT
  have hI:Hid (∀w x,Calls Tryz.prog 118 #[s2.here.val,.int .i64 1,.string x] w fun e w'=>e=.returned (.bool (cZ s2.here 1 x))∧Below w.heap.size w w'):=fun w x=>rP w s2.here 1 x
  have hH:=aj (fu (aa H2))
  obtain ⟨t,ht⟩:∃t,s2.here=t:=⟨_,rfl⟩
  have Ht:=aj ht
  rw[ht] at hI hH
  obtain ⟨kd,sp,tx⟩:=t
  unfold Tk.val at hI hH
  simp only at hI hH
  clear ht
  go_wp2_with fail
  refine (aa hH).mono ?_
  rintro e w3 ⟨rfl,mQ⟩
  have UT:=mQ.alloc mQ.size (.cells #[.int .i64 kd,.int .i64 sp,.string tx] 44)
  have gE:∀w,Below (w3.alloc (.cells #[.int .i64 kd,.int .i64 sp,.string tx] 44)).heap.size (w3.alloc (.cells #[.int .i64 kd,.int .i64 sp,.string tx] 44)) w→w.cell? ⟨w3.heap.size,0,none⟩=some (.int .i64 kd)∧w.cell? ⟨w3.heap.size,1,none⟩=some (.int .i64 sp)∧w.cell? ⟨w3.heap.size,2,none⟩=some (.string tx):=fun w hb=>by
   have e:=(hb.block w3.heap.size (by rw[zJ];omega)).trans (aC w3 (.cells #[.int .i64 kd,.int .i64 sp,.string tx] 44))
   refine ⟨?_,?_,?_⟩<;>rw[cell_of_row _ _ _ _ _ _ e]<;>rfl
  have ZY:=aj gE
  have H3:=aj ((aa H2).up UT)
  have GG:=aj ((aa Ti).trans (aA b UT))
  clear mQ UT gE hH H2
  go_wp2_with fail
  refine (aa hI _ _).mono ?_
  rintro e w4 ⟨rfl,eV⟩
  obtain ⟨x0,x1,x2⟩:=aa ZY w4 eV
  have H4:=aj ((aa H3).up eV)
  have O8:=aj ((aa GG).trans (aA b eV))
  clear eV H3 ZY
  have nr:∀f1 f2:Bool,cZ ⟨kd,sp,tx⟩ 1 ⟨#[112,117,98,108,105,99]⟩=f1→cZ ⟨kd,sp,tx⟩ 1 ⟨#[119,101,97,107]⟩=f2→dw s=(if (f1 ||f2)=true then .error (52,s2.here.spot) else match bO fh s2 with|.error e=>.error e|.ok (x,s3)=>match aV ⟨#[59]⟩ s3 with|.error e=>.error e|.ok (_,s4)=>.ok (x,s4)):=fun f1 f2 h1 h2=>by
   unfold dw
   rw[aa PF]
   simp only
   rw[aa Ht,h1,h2]
  have HEq:=aj nr
  clear nr
  cases M8:cZ ⟨kd,sp,tx⟩ 1 ⟨#[112,117,98,108,105,99]⟩ with
  |true =>
   have zt:=aj (aa HEq true _ M8 rfl)
   clear M8 HEq
   go_wp2_with fail
   refine (kE (aa H4)).mono ?_
   rintro e w5 ⟨rfl,kq⟩
   refine ⟨rfl,?_⟩
   rw[aa zt,Bool.true_or,if_pos rfl]
   exact ⟨rfl,(aa O8).trans (aA b kq)⟩
  |false =>
   have WW:=aj M8
   clear M8
   go_wp2_with fail
   refine (aa hI _ _).mono ?_
   rintro e w5 ⟨rfl,kq⟩
   have H5:=aj ((aa H4).up kq)
   have HG5:=aj ((aa O8).trans (aA b kq))
   clear kq H4 O8 x0 x1 x2
   cases yK:cZ ⟨kd,sp,tx⟩ 1 ⟨#[119,101,97,107]⟩ with
   |true =>
    have zt:=aj (aa HEq false true (aa WW) yK)
    clear yK HEq
    go_wp2_with fail
    refine (kE (aa H5)).mono ?_
    rintro e w6 ⟨rfl,za⟩
    refine ⟨rfl,?_⟩
    rw[aa zt,Bool.or_true,if_pos rfl]
    exact ⟨rfl,(aa HG5).trans (aA b za)⟩
   |false =>
    have zt:Hid (dw s=(match bO fh s2 with|.error e=>.error e|.ok (x,s3)=>match aV ⟨#[59]⟩ s3 with|.error e=>.error e|.ok (_,s4)=>.ok (x,s4))):=by
     have:=aa HEq false false (aa WW) yK
     rw[Bool.or_false,if_neg (by simp)] at this
     exact this
    have HM:=aj (pE ((aa Hv).step (aa HG5)) (aa H5))
    clear yK HEq
    go_wp2_with fail
    refine (aa HM).mono ?_
    intro e w6 hw
    rcases hw.split with ⟨y,hr,rfl,hg⟩|⟨x,s6,hr,rfl,h6,hg⟩
    ·refine ⟨rfl,?_⟩
     rw[aa zt,hr]
     exact ⟨rfl,(aa HG5).trans hg⟩
    ·have VT:=aj hr
     have Th:=aj ((aa HG5).trans hg)
     have HN:=aj (de h6 ⟨#[59]⟩)
     clear hw hr hg h6 HM H5
     go_wp2_with fail
     refine (aa HN).mono ?_
     intro e w7 hw
     rcases hw.split with ⟨y,hr,rfl,hg⟩|⟨_,s7,hr,rfl,h7,hg⟩
     ·refine ⟨rfl,?_⟩
      rw[aa zt,aa VT]
      simp only
      rw[hr]
      exact ⟨rfl,(aa Th).trans hg⟩
     ·have HE:Hid (PR lb b W Value.string (dw s) (.returned (.string x)) w7):=by
       show PR lb b W Value.string (dw s) _ _
       rw[aa zt,aa VT]
       simp only
       rw[hr]
       exact ⟨rfl,h7,(aa Th).trans hg⟩
      clear hw hr hg h7
      go_wp2
      go_ret
      exact aa HE
end Go.Proofs.YtmlphohdcejniaaGreatDoor
namespace Go.Proofs.YtmlphohdcejniaaGreatDoor
open Go.RowKit
section
variable {P : Program} {ops : Array Oper} {Q : Exit → Act → World → Prop} {md : Region.Mode}
theorem qm {d:Array Bool}{i:Nat} (h:i ∈ Region.ready md ops d):∃hi:i<d.size,d[i]=false:=by
 have h1:=(mem_ready.1 h).1
 rcases Nat.lt_or_ge i d.size with hi|hi
 ·refine ⟨hi,?_⟩
  simpa[hi] using h1
 ·simp[Array.getElem?_eq_none hi] at h1
theorem ru (I:Array Bool→Act→World→Prop) (step:∀d a w i,I d a w→i ∈ Region.ready md ops d→wpOp P ops Q i (fun a' w'=>I (d.setIfInBounds i true) a' w') a w) (fin:∀d a w,I d a w→Region.ready md ops d=[]→Q .normal a w) :
  ∀(n:Nat) (d:Array Bool) (a:Act) (w:World),I d a w→d.count false≤n→wpAny P md ops Q n d a w
 |0,d,a,w,hI,hn=>by
  have hr:Region.ready md ops d=[]:=by
   apply List.eq_nil_iff_forall_not_mem.2
   intro i hi
   obtain ⟨h1,h2⟩:=qm hi
   have h3:0<d.count false:=Array.count_pos_iff.2 (by rw[←h2];exact Array.getElem_mem h1)
   omega
  exact ⟨hr,fin d a w hI hr⟩
 |n+1,d,a,w,hI,hn=>by
  refine ⟨fun hr=>fin d a w hI hr,fun i hi=>?_⟩
  refine wpOp_mono (fun a' w' h'=>ru I step fin n _ a' w' h' ?_) (step d a w i hI hi)
  obtain ⟨h1,h2⟩:=qm hi
  have h3:0<d.count false:=Array.count_pos_iff.2 (by rw[←h2];exact Array.getElem_mem h1)
  rw[Array.setIfInBounds_def,dif_pos h1,Array.count_set h1,h2]
  simp
  omega
theorem aB {α:Type}{d:Array α}{i j:Nat}{x z:α} (h:i≠j):(d.setIfInBounds i x).getD j z=d.getD j z:=by
 simp[Array.getD_eq_getD_getElem?,h]
theorem bV {α:Type}{d:Array α}{i:Nat}{x z:α} (h:i<d.size):(d.setIfInBounds i x).getD i z=x:=by
 simp[h]
theorem IC {d:Array Bool}{i:Nat}{o:Oper} (bU:i<d.size) (hr:Region.ready md ops d=[]) (ho:ops[i]?=some o) (Y0:∀e ∈ o.after,Region.binds md e=true→d.getD e.on false=true):d.getD i false=true:=by
 by_cases h:d.getD i true=false
 ·have:i ∈ Region.ready md ops d:=mem_ready.2 ⟨h,o,ho,Y0⟩
  rw[hr] at this
  cases this
 ·simp[bU] at h ⊢
  exact h
def lC (ops:Array Oper) (i k:Nat):Prop:=∃o,ops[i]?=some o∧∃e ∈ o.after,Region.binds .any e=true∧e.on=k
def fE (ops:Array Oper) (i k:Nat):Bool:=match ops[i]? with
 |some o=>o.after.any fun e=>Region.binds .any e&&e.on==k
 |none=>false
theorem eC {i k:Nat} (h:fE ops i k=true):lC ops i k:=by
 unfold fE at h
 cases ho:ops[i]? with
 |none=>rw[ho] at h;cases h
 |some o =>
  rw[ho] at h
  simp only[Array.any_eq_true] at h
  obtain ⟨j,hj,h2⟩:=h
  rw[Bool.and_eq_true] at h2
  exact ⟨o,ho,o.after[j],Array.getElem_mem hj,h2.1,eq_of_beq h2.2⟩
def IL (ops:Array Oper) (n:Nat):Bool:=(List.range n).all fun i=>match ops[i]? with
 |some o=>o.after.all fun e=>decide (e.on<i)
 |none=>true
theorem IK {n:Nat} (hn:ops.size=n) (h:IL ops n=true):∀(i:Nat) (o:Oper),ops[i]?=some o→∀e ∈ o.after,e.on<i:=by
 intro i o ho e he
 have hi:i<n:=by rw[←hn];exact (zA ho).1
 have h1:=List.all_eq_true.1 h i (List.mem_range.2 hi)
 rw[ho] at h1
 simp only[Array.all_eq_true] at h1
 obtain ⟨j,hj,rfl⟩:=Array.getElem_of_mem he
 exact of_decide_eq_true (h1 j hj)
def Zy (ops:Array Oper) (z:Nat):Bool:=(List.range z).all fun i=>fE ops z i ||(List.range z).any fun j=>fE ops z j&&fE ops j i
theorem Ob {z:Nat} (h:Zy ops z=true):∀D:Nat→Prop,(∀k j,D k→lC ops k j→D j)→(∀j,lC ops z j→D j)→∀i,i<z→D i:=by
 intro D gE hD i hi
 have h1:=List.all_eq_true.1 h i (List.mem_range.2 hi)
 rw[Bool.or_eq_true] at h1
 rcases h1 with h1|h1
 ·exact hD i (eC h1)
 ·obtain ⟨j,_,h2⟩:=List.any_eq_true.1 h1
  rw[Bool.and_eq_true] at h2
  exact gE j i (hD j (eC h2.1)) (eC h2.2)
theorem cY {id z N c:Nat} (QO:P.follows .mixedOrders=true) (s:Nat→Nat) (val:Nat→Value) (Φ:Nat→Value→World→Prop) (iv:Array Value) (w0:World)
  (hn:ops.size=z+1) (hN:iv.size=N) (Ng:∀i j,i<z→j<z→s i=s j→i=j) (hs:∀i,i<z→s i<N) (DY:IL ops (z+1)=true)
  (hc:c+2<z) (w1:fE ops (c+1) c=true) (w2:fE ops (c+2) (c+1)=true) (hz:Zy ops z=true) (h0:Φ 0 undef w0.drew)
  (quiet:∀k tm w,k<z→(k<c∨c+2<k)→tm.size=N→(∀j,(∀i,i<z→s i≠j)→tm.getD j undef=iv.getD j undef)→(∀j,(j<c∨c+2<j)→fE ops k j=true→tm.getD (s j) undef=val j)→(∃ph x,Φ ph x w) →
   wpOp P ops Q k (fun a' w'=>a'=⟨tm.setIfInBounds (s k) (val k),[]⟩∧w'=w) ⟨tm,[]⟩ w)
  (call:∀tm w,tm.size=N→(∀j,(∀i,i<z→s i≠j)→tm.getD j undef=iv.getD j undef)→(∀j,(j<c∨c+2<j)→fE ops c j=true→tm.getD (s j) undef=val j)→Φ 0 undef w→wpOp P ops Q c (fun a' w'=>∃x,a'=⟨tm.setIfInBounds (s c) x,[]⟩∧Φ 1 x w') ⟨tm,[]⟩ w)
  (bs:∀tm w x,tm.size=N→tm.getD (s c) undef=x→Φ 1 x w→wpOp P ops Q (c+1) (fun a' w'=>∃y,a'=⟨tm.setIfInBounds (s (c+1)) y,[]⟩∧Φ 2 y w') ⟨tm,[]⟩ w)
  (ap:∀tm w y,tm.size=N→(∀j,(j<c∨c+2<j)→fE ops (c+2) j=true→tm.getD (s j) undef=val j)→tm.getD (s (c+1)) undef=y→Φ 2 y w→wpOp P ops Q (c+2) (fun a' w'=>∃y',a'=⟨tm.setIfInBounds (s (c+2)) y',[]⟩∧Φ 3 y' w') ⟨tm,[]⟩ w)
  (last:∀tm w y,tm.size=N→(∀j,(∀i,i<z→s i≠j)→tm.getD j undef=iv.getD j undef)→(∀j,j<z→(j<c∨c+2<j)→tm.getD (s j) undef=val j)→tm.getD (s (c+2)) undef=y→Φ 3 y w→wpOp P ops Q z (fun a' w'=>Q .normal a' w') ⟨tm,[]⟩ w) :
  (Code.region id ops true).wp P Q ⟨iv,[]⟩ w0:=by
 have hb:=IK hn DY
 have W1:=eC w1
 have W2:=eC w2
 refine wp_region_any QO (ru (md:=.any) (fun d a w=>d.size=z+1∧(∀k j,d.getD k false=true→lC ops k j→d.getD j false=true)∧((d.getD z false=false∧∃tm,a=⟨tm,[]⟩∧tm.size=N∧(∀j,(∀i,i<z→s i≠j)→tm.getD j undef=iv.getD j undef)∧(∀k,k<z→(k<c∨c+2<k)→d.getD k false=true→tm.getD (s k) undef=val k) ∧
   ((d.getD c false=false∧Φ 0 undef w)∨(d.getD c false=true∧d.getD (c+1) false=false∧Φ 1 (tm.getD (s c) undef) w)∨(d.getD (c+1) false=true∧d.getD (c+2) false=false∧Φ 2 (tm.getD (s (c+1)) undef) w)∨(d.getD (c+2) false=true∧Φ 3 (tm.getD (s (c+2)) undef) w))) ∨
   (d.getD z false=true∧Q .normal a w))) ?_ ?_ _ _ _ _ ?_ ?_)
 ·rintro d a w i ⟨hd,gE,Nq⟩ hr
  obtain ⟨hi,rT⟩:=qm hr
  obtain ⟨_,o,ho,jq⟩:=mem_ready.1 hr
  have jm:d.getD i false=false:=by simp[hi,rT]
  have hw:∀k,lC ops i k→d.getD k false=true:=by
   rintro k ⟨o',BL,e,he,hb,rfl⟩
   rw[ho] at BL
   obtain rfl:=zC BL
   exact jq e he hb
  have DW:∀k j,(d.setIfInBounds i true).getD k false=true→lC ops k j→(d.setIfInBounds i true).getD j false=true:=by
   intro k j hk hj
   by_cases e:j=i
   ·subst e
    exact bV hi
   ·rw[aB (Ne.symm e)]
    by_cases e2:k=i
    ·subst e2
     exact hw j hj
    ·rw[aB (Ne.symm e2)] at hk
     exact gE k j hk hj
  have iD:(d.setIfInBounds i true).size=z+1:=by rw[Array.size_setIfInBounds];exact hd
  rcases Nq with ⟨Cy,tm,rfl,h1,h2,h3,h4⟩|⟨Cy,hq⟩
  rotate_left
  ·exfalso
   have QS:i<z:=by
    rcases Nat.lt_or_ge i z with q|q
    ·exact q
    ·obtain rfl:i=z:=by omega
     rw[Cy] at jm;cases jm
   have:=Ob hz (fun k=>d.getD k false=true) gE (fun j hj=>gE _ _ Cy hj) i QS
   rw[this] at jm;cases jm
  by_cases QS:i=z
  ·subst QS
   have jU:=Ob hz (fun k=>d.getD k false=true) gE hw
   have h5:Φ 3 (tm.getD (s (c+2)) undef) w:=by
    rcases h4 with ⟨q,_⟩|⟨_,q,_⟩|⟨_,q,_⟩|⟨_,q⟩
    ·rw[jU c (by omega)] at q;cases q
    ·rw[jU (c+1) (by omega)] at q;cases q
    ·rw[jU (c+2) (by omega)] at q;cases q
    ·exact q
   refine wpOp_mono ?_ (last tm w _ h1 h2 (fun j hj hq=>h3 j hj hq (jU j hj)) rfl h5)
   intro a' w' hq
   exact ⟨iD,DW,.inr ⟨bV hi,hq⟩⟩
  ·have BM:i<z:=by omega
   have hz':(d.setIfInBounds i true).getD z false=false:=by rw[aB QS];exact Cy
   have b9:∀x:Value,∀j,(∀i,i<z→s i≠j)→(tm.setIfInBounds (s i) x).getD j undef=iv.getD j undef:=fun x j hj=>by rw[aB (hj i BM)];exact h2 j hj
   have DN:∀(x:Value) k,k<z→k≠i→(tm.setIfInBounds (s i) x).getD (s k) undef=tm.getD (s k) undef:=fun x k hk eo=>aB (fun q=>eo (Ng i k BM hk q).symm)
   by_cases SL:i<c∨c+2<i
   ·refine wpOp_mono ?_ (quiet i tm w BM SL h1 h2 (fun j hjq hj=>h3 j (by have:=hb i o ho;obtain ⟨o',BL,e,he,_,rfl⟩:=eC hj;rw[ho] at BL;obtain rfl:=zC BL;have:=this e he;omega) hjq (hw j (eC hj))) (by rcases h4 with ⟨_,q⟩|⟨_,_,q⟩|⟨_,_,q⟩|⟨_,q⟩<;>exact ⟨_,_,q⟩))
    rintro a' w' ⟨rfl,rfl⟩
    refine ⟨iD,DW,.inl ⟨hz',_,rfl,by rw[Array.size_setIfInBounds];exact h1,b9 _,fun k hk hkq YZ=>?_,?_⟩⟩
    ·by_cases e:k=i
     ·subst e
      exact bV (by rw[h1];exact hs k hk)
     ·rw[aB (Ne.symm e)] at YZ
      rw[DN _ k hk e]
      exact h3 k hk hkq YZ
    ·rw[aB (show i≠c by omega),aB (show i≠c+1 by omega),aB (show i≠c+2 by omega),DN _ c (by omega) (by omega),DN _ (c+1) (by omega) (by omega),DN _ (c+2) (by omega) (by omega)]
     exact h4
   ·have CB:∀x:Value,∀k,k<z→(k<c∨c+2<k)→(d.setIfInBounds i true).getD k false=true→(tm.setIfInBounds (s i) x).getD (s k) undef=val k:=fun x k hk hkq YZ=>by
     rw[aB (show i≠k by omega)] at YZ
     rw[DN _ k hk (by omega)]
     exact h3 k hk hkq YZ
    have aW:∀j,(j<c∨c+2<j)→fE ops i j=true→tm.getD (s j) undef=val j:=fun j hjq hj=>h3 j (by have:=hb i o ho;obtain ⟨o',BL,e,he,_,rfl⟩:=eC hj;rw[ho] at BL;obtain rfl:=zC BL;have:=this e he;omega) hjq (hw j (eC hj))
    rcases (show i=c∨i=c+1∨i=c+2 by omega) with rfl|rfl|rfl
    ·rcases h4 with ⟨_,q⟩|⟨q,_⟩|⟨q,_⟩|⟨q,_⟩
     ·refine wpOp_mono ?_ (call tm w h1 h2 aW q)
      rintro a' w' ⟨x,rfl,hx⟩
      refine ⟨iD,DW,.inl ⟨hz',_,rfl,by rw[Array.size_setIfInBounds];exact h1,b9 _,CB x,.inr (.inl ⟨bV hi,?_,?_⟩)⟩⟩
      ·rw[aB (by omega)]
       apply Bool.eq_false_iff.2
       intro q2
       rw[gE _ _ q2 W1] at jm;cases jm
      ·rw[bV (by rw[h1];exact hs _ BM)]
       exact hx
     ·rw[q] at jm;cases jm
     ·rw[gE _ _ q W1] at jm;cases jm
     ·rw[gE _ _ (gE _ _ q W2) W1] at jm;cases jm
    ·rcases h4 with ⟨q,_⟩|⟨_,_,q⟩|⟨q,_⟩|⟨q,_⟩
     ·rw[hw _ W1] at q;cases q
     ·refine wpOp_mono ?_ (bs tm w _ h1 rfl q)
      rintro a' w' ⟨x,rfl,hx⟩
      refine ⟨iD,DW,.inl ⟨hz',_,rfl,by rw[Array.size_setIfInBounds];exact h1,b9 _,CB x,.inr (.inr (.inl ⟨bV hi,?_,?_⟩))⟩⟩
      ·rw[aB (by omega)]
       apply Bool.eq_false_iff.2
       intro q2
       rw[gE _ _ q2 W2] at jm;cases jm
      ·rw[bV (by rw[h1];exact hs _ BM)]
       exact hx
     ·rw[q] at jm;cases jm
     ·rw[gE _ _ q W2] at jm;cases jm
    ·rcases h4 with ⟨q,_⟩|⟨_,q,_⟩|⟨_,_,q⟩|⟨q,_⟩
     ·rw[gE _ _ (hw _ W2) W1] at q;cases q
     ·rw[hw _ W2] at q;cases q
     ·refine wpOp_mono ?_ (ap tm w _ h1 aW rfl q)
      rintro a' w' ⟨x,rfl,hx⟩
      refine ⟨iD,DW,.inl ⟨hz',_,rfl,by rw[Array.size_setIfInBounds];exact h1,b9 _,CB x,.inr (.inr (.inr ⟨bV hi,?_⟩))⟩⟩
      rw[bV (by rw[h1];exact hs _ BM)]
      exact hx
     ·rw[q] at jm;cases jm
 ·rintro d a w ⟨hd,gE,⟨Cy,_⟩|⟨_,hq⟩⟩ hr
  ·exfalso
   have jq:∀m i,i<m→i<z+1→d.getD i false=true:=by
    intro m
    induction m with
    |zero=>intro i hi;omega
    |succ m ih =>
     intro i hi KO
     obtain ⟨o,ho⟩:∃o,ops[i]?=some o:=⟨_,Array.getElem?_eq_getElem (by omega)⟩
     exact IC (by omega) hr ho fun e he _=>ih e.on (by have:=hb i o ho e he;omega) (by have:=hb i o ho e he;omega)
   rw[jq (z+1) z (by omega) (by omega)] at Cy;cases Cy
  ·exact hq
 ·have DP:∀k,(Array.replicate ops.size false).getD k false=false:=fun k=>by
   simp[Array.getD_eq_getD_getElem?,Array.getElem?_replicate]
   split<;>simp
  refine ⟨by simp[hn],fun k j hk _=>(by rw[DP k] at hk;cases hk),.inl ⟨DP z,iv,rfl,hN,fun _ _=>rfl,fun k _ _ hk=>(by rw[DP k] at hk;cases hk),.inl ⟨DP c,h0⟩⟩⟩
 ·simp
theorem nH {i:Nat}{o:Oper}{a:Act}{w w':World}{K:Act→World→Prop}{v:Value} (ho:ops[i]?=some o) (hg:o.guard=none) (hr:(execOp a.eval o).run P w=.ok (.value v) w') (hK:K (a.put o.dst v) w'):wpOp P ops Q i K a w:=by
 refine wpOp_step ho (fun K' Zh=>?_)
 have hw:Region.wanted o (yielded ops a.tmps)=true:=by simp[Region.wanted,hg]
 rw[if_pos hw]
 unfold Oper.wp
 rw[hr]
 exact Zh _ _ hK
theorem Qo {i:Nat}{o:Oper}{a:Act}{w w':World}{K:Act→World→Prop} (ho:ops[i]?=some o) (hg:o.guard=none) (hr:(execOp a.eval o).run P w=.ok .skip w') (hK:K (a.put o.dst undef) w'):wpOp P ops Q i K a w:=by
 refine wpOp_step ho (fun K' Zh=>?_)
 have hw:Region.wanted o (yielded ops a.tmps)=true:=by simp[Region.wanted,hg]
 rw[if_pos hw]
 unfold Oper.wp
 rw[hr]
 exact Zh _ _ hK
theorem cn {i:Nat}{o:Oper}{a:Act}{w:World}{K:Act→World→Prop} (ho:ops[i]?=some o) (hg:o.guard=none) (f:FuncId) (y9:∀vs,(callFunc f vs).run P w=.ok (.enter f vs) w) (args:Array Operand) (KJ:Array TypeId)
  (jS:o.op=.call { callee:=.value (.func f),args:=args,argTypes:=KJ }) (vs:Array Value) (hv:args.map a.eval=vs) {R:Ending→World→Prop} (hc:Calls P f vs w R) (hK:∀e w',R e w'→(∃v,e=.returned v∧K (a.put o.dst v) w')∨∃ch,e=.panicked ch∧Q (.panic ch) a w'):wpOp P ops Q i K a w:=by
 refine wpOp_step ho (fun K' Zh=>?_)
 have hw:Region.wanted o (yielded ops a.tmps)=true:=by simp[Region.wanted,hg]
 rw[if_pos hw]
 have h2:Oper.wp P o a w K' Q=o.upon P a K' Q (.ok (.enter f vs) w):=by
  unfold Oper.wp
  simp[execOp,jS,resolve,invoke,←hv,Act.eval,Deferred.ofValue,y9]
 rw[h2,Oper.upon_enter]
 refine hc.mono ?_
 intro e w' hr
 rcases hK e w' hr with ⟨v,rfl,hk⟩|⟨ch,rfl,hq⟩
 ·exact Zh _ _ hk
 ·exact hq
theorem GX {S:Sem Value}{w w':World}{v:Value} (h:S.run P w=.ok v w'):((do pure (Next.value (←S))):Sem Next).run P w=.ok (.value v) w':=by
 simp[h]
theorem aT {i:Nat}{o:Oper}{a:Act}{w w':World}{K:Act→World→Prop}{v vx:Value} (ho:ops[i]?=some o) (hg:o.guard=none) (t:TypeId) (x:Operand) (jS:o.op=.load t x) (ex:a.eval x=vx) (hr:(Instr.loadAt t vx).run P w=.ok v w') (hK:K (a.put o.dst v) w'):wpOp P ops Q i K a w :=
 nH ho hg (by simp only[execOp,jS,ex,Sem.run_pure,Sem.run_bind,hr,Result.andThen_ok]) hK
end
end Go.Proofs.YtmlphohdcejniaaGreatDoor

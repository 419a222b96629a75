import Derived.Test.YtjophoclfccmcaaGreatDoorM15
import Derived.Orders
import Derived.RegionTactic
set_option maxHeartbeats 8000000
set_option maxRecDepth 100000
namespace Go.Proofs.YtjophoclfccmcaaGreatDoor
open Go.RowKit Go.Shelf
attribute [local go_sem ↓] Go.wp_at_zero Go.wp_at_succ
theorem yD {lb b:Nat}{V W:World}{s:ax} (hv:Env V W b) (h:Rd lb W b s) (hs:Sm s) (hn:s.ts.length≤16384) (hp:0<s.ts.length):Calls Tryz.prog 154 #[.pointer (some ⟨b,0,none⟩)] W (PR lb b W Fd.val (dg s)):=by
 have cC:=h.low
 have bo:Below W.heap.size W (W.alloc (.cells #[.int .i64 0,.string ⟨#[]⟩,.string ⟨#[]⟩,.string ⟨#[]⟩,.int .i64 0,.int .i64 0] 45)):=(zE _ _).alloc (zD _) _
 have hM:Mw lb b W.heap.size V W s s (W.alloc (.cells #[.int .i64 0,.string ⟨#[]⟩,.string ⟨#[]⟩,.string ⟨#[]⟩,.int .i64 0,.int .i64 0] 45)):=⟨h.up bo,hv.step (aD b bo),aF _ _,aD b bo,⟨cC.2,rfl,cC.1⟩,.refl _⟩
 have hc:=ab (Bh (n:=1) hM.rd (by omega))
 have HM:=ab hM
 have HS:=ab hs
 clear h hv hs bo hM
 have hI:Hid (∀w,Calls Tryz.prog 119 #[(s.ahead 1).val,.int .i64 4,.string ⟨#[60]⟩] w fun e w'=>e=.returned (.bool (aH (s.ahead 1) 4 ⟨#[60]⟩))∧Below w.heap.size w w'):=fun w=>sF w (s.ahead 1) 4 _
 have PD:Hid (∃p q r,(s.ahead 1).val=.agg #[p,q,r]):=⟨_,_,_,rfl⟩
 obtain ⟨p,q,r,Kv⟩:=aa PD
 rw[Kv] at hI hc
 clear PD Kv
 go_enter Tryz.func154,Tryz.ntmps154
 go_wp2_with fail
 refine (aa hc).mono ?_
 rintro e w1 ⟨rfl,bK⟩
 have HM1:=ab ((aa HM).up bK)
 clear bK hc HM
 go_wp2_with fail
 refine (aa hI w1).mono ?_
 rintro e w2 ⟨rfl,bo⟩
 have xO:=ab ((aa HM1).up bo)
 clear bo hI HM1
 cases RD:aH (s.ahead 1) 4 ⟨#[60]⟩ with
 |false =>
  have wV:Hid (dg s=cu 0 s):=by show _=_;unfold dg;rw[if_neg (by rw[RD];simp)]
  have HC:=ab (sw 0 (aa xO).env (aa xO).rd (aa HS) hn)
  clear RD
  go_wp2_with fail
  refine (aa HC).mono ?_
  intro e w3 hw
  rcases hw.split with ⟨y,hr,rfl,hg⟩|⟨d2,s3,hr,rfl,h3,hg⟩
  ·refine ⟨rfl,?_⟩
   rw[aa wV,hr]
   exact ⟨rfl,(aa xO).gr.trans hg⟩
  ·obtain ⟨c9,k9,t9,n9,m9,o9⟩:=d2
   have Xf:=(aa xO).lw
   have VA:Mw lb b W.heap.size V W s3 s3 w3:=⟨h3,(aa xO).env.step hg,(hg.block W.heap.size (zA (aa xO).rs).1 (by simp;omega)).trans (aa xO).rs,(aa xO).gr.trans hg,Xf,.refl _⟩
   have nH:dg s=.ok (⟨c9,k9,t9,n9,m9,o9⟩,s3):=(aa wV).trans hr
   unfold Fd.val Fd.arr
   simp only
   clear hw hr hg h3 HC wV xO
   obtain ⟨d1,d2⟩:=VA.done ⟨c9,k9,t9,n9,m9,o9⟩ nH
   obtain ⟨⟨v0,v1,v2,v3,v4,v5⟩,vf⟩:=bG VA.rs
   have e0:=vf 0
   have e1:=vf 1
   have e2:=vf 2
   have e3:=vf 3
   have e4:=vf 4
   have e5:=vf 5
   have D1:=ab d1
   have D2:=ab d2
   unfold mo Fd.val Fd.arr at D1
   unfold mo at D2
   simp only at D1 D2
   clear d1 d2 vf nH VA
   go_wp2
   exact bodyPost_ret (results_cell_row rfl _ _ W.heap.size 45 #[.int .i64 c9,.string k9,.string t9,.string n9,.int .i64 m9,.int .i64 o9] (0,0) _ rfl (aa D2) Tryz.underlying45 rfl ko) rfl (aa D1)
 |true =>
  have wV:Hid (dg s=lr s):=by show _=_;unfold dg;rw[if_pos RD]
  clear RD
  go_wp2_with fail
  refine (fK (aa xO).rd).mono ?_
  rintro e w3 ⟨rfl,h3,cO⟩
  have XV:Hid (Mw lb b W.heap.size V W s s.begun w3):=(aa xO).step h3 cO ⟨0,rfl,rfl,rfl⟩
  clear h3 cO xO
  go_wp2_with fail
  refine (dX (aa XV).rd hp).mono ?_
  intro e w4 hw
  rcases hw.split with ⟨y,hr,rfl,hg⟩|⟨_,s4,hr,rfl,h4,hg⟩
  ·refine ⟨rfl,?_⟩
   rw[aa wV]
   unfold lr
   rw[hr]
   exact ⟨rfl,(aa XV).gr.trans hg⟩
  ·have Ua:Hid (Mw lb b W.heap.size V W s s4 w4):=(aa XV).step h4 hg ⟨1,by rw[mZ hr,List.drop_one],mY hr⟩
   have SM:=ab hr
   clear hw hr hg h4 XV
   go_wp2_with fail
   refine (dx (aa Ua).rd _).mono ?_
   intro e w5 hw
   rcases hw.split with ⟨y,hr,rfl,hg⟩|⟨_,s5,hr,rfl,h5,hg⟩
   ·refine ⟨rfl,?_⟩
    rw[aa wV]
    unfold lr
    rw[aa SM]
    simp only
    rw[hr]
    exact ⟨rfl,(aa Ua).gr.trans hg⟩
   ·have PM:=ab ((aa Ua).step h5 hg (bB hr))
    have Hr5:=ab hr
    clear hw hr hg h5 Ua
    have hl5:=(aa PM).sf.len
    go_wp2_with fail
    refine (nj true (aa PM).rd ((aa PM).sf.sm (aa HS)) (by omega)).mono ?_
    intro e w6 hw
    rcases hw.split with ⟨y,hr,rfl,hg⟩|⟨kx,s6,hr,rfl,h6,hg⟩
    ·refine ⟨rfl,?_⟩
     rw[aa wV]
     unfold lr
     rw[aa SM]
     simp only
     rw[aa Hr5]
     simp only
     rw[hr]
     exact ⟨rfl,(aa PM).gr.trans hg⟩
    ·have hM6:=(aa PM).step h6 hg (fu hr)
     have Wl:=ab hr
     have Ae:W.heap.size<w6.heap.size:=(zA hM6.rs).1
     have HM7:=ab (hM6.up ((zE _ w6).alloc (zD _) (.cells #[.int .i64 4,.string kx,.string ⟨#[]⟩,.string ⟨#[]⟩,.int .i64 0,.int .i64 0] 45)))
     have oP:=hM6.lw
     have HD7:Hid ((w6.alloc (.cells #[.int .i64 4,.string kx,.string ⟨#[]⟩,.string ⟨#[]⟩,.int .i64 0,.int .i64 0] 45)).heap[w6.heap.size]?=some (.cells #[.int .i64 4,.string kx,.string ⟨#[]⟩,.string ⟨#[]⟩,.int .i64 0,.int .i64 0] 45 (0,0))):=aF _ _
     clear hw hr hg h6 PM hM6 hl5
     go_wp2_with fail
     refine (dx (aa HM7).rd _).mono ?_
     intro e w8 hw
     rcases hw.split with ⟨y,hr,rfl,hg⟩|⟨_,s8,hr,rfl,h8,hg⟩
     ·refine ⟨rfl,?_⟩
      rw[aa wV]
      unfold lr
      rw[aa SM]
      simp only
      rw[aa Hr5]
      simp only
      rw[aa Wl]
      simp only
      rw[hr]
      exact ⟨rfl,(aa HM7).gr.trans hg⟩
     ·have XU:=ab ((aa HM7).step h8 hg (bB hr))
      have HD8:=ab ((hg.block w6.heap.size (zA (aa HD7)).1 (by simp;omega)).trans (aa HD7))
      have Hr8:=ab hr
      clear hw hr hg h8 HM7 HD7
      have hl8:=(aa XU).sf.len
      go_wp2_with fail
      refine (nj true (aa XU).rd ((aa XU).sf.sm (aa HS)) (by omega)).mono ?_
      intro e w9 hw
      rcases hw.split with ⟨y,hr,rfl,hg⟩|⟨tx,s9,hr,rfl,h9,hg⟩
      ·refine ⟨rfl,?_⟩
       rw[aa wV]
       unfold lr
       rw[aa SM]
       simp only
       rw[aa Hr5]
       simp only
       rw[aa Wl]
       simp only
       rw[aa Hr8]
       simp only
       rw[hr]
       exact ⟨rfl,(aa XU).gr.trans hg⟩
      ·have hM9:=(aa XU).step h9 hg (fu hr)
       have hD9:=(hg.block w6.heap.size (zA (aa HD8)).1 (by simp;omega)).trans (aa HD8)
       obtain ⟨⟨y0,y1,y2,y3,y4,y5⟩,yf⟩:=bG hD9
       have f2:=yf 2
       obtain ⟨q1,g1⟩:=aC (j:=2) hD9 (.string tx)
       simp only[zN,zM] at q1
       have SX:=ab (hM9.new g1 Ae)
       have WL:=ab q1
       have Hr9:=ab hr
       clear hw hr hg h9 XU HD8 hM9 hD9 yf q1 g1 hl8
       go_wp2_with fail
       refine (dx (aa SX).rd _).mono ?_
       intro e w11 hw
       rcases hw.split with ⟨y,hr,rfl,hg⟩|⟨_,s11,hr,rfl,TB,hg⟩
       ·refine ⟨rfl,?_⟩
        rw[aa wV]
        unfold lr
        rw[aa SM]
        simp only
        rw[aa Hr5]
        simp only
        rw[aa Wl]
        simp only
        rw[aa Hr8]
        simp only
        rw[aa Hr9]
        simp only
        rw[hr]
        exact ⟨rfl,(aa SX).gr.trans hg⟩
       ·have On:=(aa SX).step TB hg (bB hr)
        have ZT:=(hg.block w6.heap.size (zA (aa WL)).1 (by simp;omega)).trans (aa WL)
        obtain ⟨⟨u0,u1,u2,u3,u4,u5⟩,_⟩:=bG ZT
        have WH:Hid (dg s=AQ ⟨4,kx,tx,⟨#[]⟩,0,0⟩ s11):=by
         show _=_
         rw[aa wV]
         unfold lr
         rw[aa SM]
         simp only
         rw[aa Hr5]
         simp only
         rw[aa Wl]
         simp only
         rw[aa Hr8]
         simp only
         rw[aa Hr9]
         simp only
         rw[hr]
        have G2:=ab On
        have HC:=ab (MZ ⟨4,kx,tx,⟨#[]⟩,0,0⟩ On.env On.rd (On.sf.sm (aa HS)))
        unfold Fd.val Fd.arr at HC
        simp only at HC
        clear hw hr hg TB SX WL On ZT y0 y1 y2 y3 y4 y5 f2
        go_wp2_with fail
        refine (aa HC).mono ?_
        intro e JH hw
        rcases hw.split with ⟨y,hr,rfl,hg⟩|⟨d2,s12,hr,rfl,VF,hg⟩
        ·refine ⟨rfl,?_⟩
         rw[aa WH,hr]
         exact ⟨rfl,(aa G2).gr.trans hg⟩
        ·obtain ⟨c9,k9,t9,n9,m9,o9⟩:=d2
         have Xf:=(aa G2).lw
         have VA:Mw lb b W.heap.size V W s12 s12 JH:=⟨VF,(aa G2).env.step hg,(hg.block W.heap.size (zA (aa G2).rs).1 (by simp;omega)).trans (aa G2).rs,(aa G2).gr.trans hg,Xf,.refl _⟩
         have nH:dg s=.ok (⟨c9,k9,t9,n9,m9,o9⟩,s12):=(aa WH).trans hr
         simp only
         clear hw hr hg VF HC WH wV G2 u0 u1 u2 u3 u4 u5
         obtain ⟨d1,d2⟩:=VA.done ⟨c9,k9,t9,n9,m9,o9⟩ nH
         obtain ⟨⟨v0,v1,v2,v3,v4,v5⟩,vf⟩:=bG VA.rs
         have e0:=vf 0
         have e1:=vf 1
         have e2:=vf 2
         have e3:=vf 3
         have e4:=vf 4
         have e5:=vf 5
         have D1:=ab d1
         have D2:=ab d2
         unfold mo Fd.val Fd.arr at D1
         unfold mo at D2
         simp only at D1 D2
         clear d1 d2 vf nH VA
         go_wp2
         exact bodyPost_ret (results_cell_row rfl _ _ W.heap.size 45 #[.int .i64 c9,.string k9,.string t9,.string n9,.int .i64 m9,.int .i64 o9] (0,0) _ rfl (aa D2) Tryz.underlying45 rfl ko) rfl (aa D1)
noncomputable def bA (s:ax):Except (Int×Int) (ByteArray×ax):=match bC s.begun with
 |.error e=>.error e
 |.ok (_,s1)=>if (aH s1.here 1 ⟨#[112,117,98,108,105,99]⟩ ||aH s1.here 1 ⟨#[119,101,97,107]⟩)=true then .error (52,s1.here.spot) else match bE dR s1 with
  |.error e=>.error e
  |.ok (x,s2)=>match au ⟨#[59]⟩ s2 with
   |.error e=>.error e
   |.ok (_,s3)=>.ok (x,s3)
theorem BW {lb b:Nat}{V W:World}{s:ax} (hv:Env V W b) (h:Rd lb W b s) (hp:0<s.ts.length):Calls Tryz.prog 101 #[.pointer (some ⟨b,0,none⟩)] W (PR lb b W Value.string (bA s)):=by
 have hc:=ab (fK h)
 have Hv:=ab hv
 clear h hv
 go_enter Tryz.func101,Tryz.ntmps101
 go_wp2_with fail
 refine (aa hc).mono ?_
 rintro e w1 ⟨rfl,h1,lY⟩
 have HN:=ab (dX h1 hp)
 have rQ:=ab lY
 clear h1 lY hc
 go_wp2_with fail
 refine (aa HN).mono ?_
 intro e w2 hw
 rcases hw.split with ⟨y,hr,rfl,hg⟩|⟨_,s2,hr,rfl,h2,hg⟩
 ·refine ⟨rfl,?_⟩
  unfold bA
  rw[hr]
  exact ⟨rfl,(aa rQ).trans hg⟩
 ·have Qf:=ab hr
  have H2:=ab h2
  have SY:=ab ((aa rQ).trans hg)
  clear hw hr hg h2 HN rQ
  have hI:Hid (∀w x,Calls Tryz.prog 119 #[s2.here.val,.int .i64 1,.string x] w fun e w'=>e=.returned (.bool (aH s2.here 1 x))∧Below w.heap.size w w'):=fun w x=>sF w s2.here 1 x
  have hH:=ab (fF (aa H2))
  obtain ⟨t,ht⟩:∃t,s2.here=t:=⟨_,rfl⟩
  have Ht:=ab ht
  rw[ht] at hI hH
  obtain ⟨kd,sp,tx⟩:=t
  unfold Tk.val at hI hH
  simp only at hI hH
  clear ht
  go_wp2_with fail
  refine (aa hH).mono ?_
  rintro e w3 ⟨rfl,qG⟩
  have Vv:=qG.alloc qG.size (.cells #[.int .i64 kd,.int .i64 sp,.string tx] 38)
  have i':∀w,Below (w3.alloc (.cells #[.int .i64 kd,.int .i64 sp,.string tx] 38)).heap.size (w3.alloc (.cells #[.int .i64 kd,.int .i64 sp,.string tx] 38)) w→w.cell? ⟨w3.heap.size,0,none⟩=some (.int .i64 kd)∧w.cell? ⟨w3.heap.size,1,none⟩=some (.int .i64 sp)∧w.cell? ⟨w3.heap.size,2,none⟩=some (.string tx):=fun w hb=>by
   have e:=(hb.block w3.heap.size (by rw[zJ];omega)).trans (aF w3 (.cells #[.int .i64 kd,.int .i64 sp,.string tx] 38))
   refine ⟨?_,?_,?_⟩<;>rw[cell_of_row _ _ _ _ _ _ e]<;>rfl
  have SN:=ab i'
  have H3:=ab ((aa H2).up Vv)
  have xP:=ab ((aa SY).trans (aD b Vv))
  clear qG Vv i' hH H2
  go_wp2_with fail
  refine (aa hI _ _).mono ?_
  rintro e w4 ⟨rfl,fC⟩
  obtain ⟨x0,x1,x2⟩:=aa SN w4 fC
  have H4:=ab ((aa H3).up fC)
  have rX:=ab ((aa xP).trans (aD b fC))
  clear fC H3 SN
  have nH:∀f1 f2:Bool,aH ⟨kd,sp,tx⟩ 1 ⟨#[112,117,98,108,105,99]⟩=f1→aH ⟨kd,sp,tx⟩ 1 ⟨#[119,101,97,107]⟩=f2→bA s=(if (f1 ||f2)=true then .error (52,s2.here.spot) else match bE dR s2 with|.error e=>.error e|.ok (x,s3)=>match au ⟨#[59]⟩ s3 with|.error e=>.error e|.ok (_,s4)=>.ok (x,s4)):=fun f1 f2 h1 h2=>by
   unfold bA
   rw[aa Qf]
   simp only
   rw[aa Ht,h1,h2]
  have HEq:=ab nH
  clear nH
  cases N4:aH ⟨kd,sp,tx⟩ 1 ⟨#[112,117,98,108,105,99]⟩ with
  |true =>
   have rY:=ab (aa HEq true _ N4 rfl)
   clear N4 HEq
   go_wp2_with fail
   refine (kR (aa H4)).mono ?_
   rintro e w5 ⟨rfl,mE⟩
   refine ⟨rfl,?_⟩
   rw[aa rY,Bool.true_or,if_pos rfl]
   exact ⟨rfl,(aa rX).trans (aD b mE)⟩
  |false =>
   have XN:=ab N4
   clear N4
   go_wp2_with fail
   refine (aa hI _ _).mono ?_
   rintro e w5 ⟨rfl,mE⟩
   have H5:=ab ((aa H4).up mE)
   have Jt:=ab ((aa rX).trans (aD b mE))
   clear mE H4 rX x0 x1 x2
   cases xv:aH ⟨kd,sp,tx⟩ 1 ⟨#[119,101,97,107]⟩ with
   |true =>
    have rY:=ab (aa HEq false true (aa XN) xv)
    clear xv HEq
    go_wp2_with fail
    refine (kR (aa H5)).mono ?_
    rintro e w6 ⟨rfl,Qa⟩
    refine ⟨rfl,?_⟩
    rw[aa rY,Bool.or_true,if_pos rfl]
    exact ⟨rfl,(aa Jt).trans (aD b Qa)⟩
   |false =>
    have rY:Hid (bA s=(match bE dR s2 with|.error e=>.error e|.ok (x,s3)=>match au ⟨#[59]⟩ s3 with|.error e=>.error e|.ok (_,s4)=>.ok (x,s4))):=by
     have:=aa HEq false false (aa XN) xv
     rw[Bool.or_false,if_neg (by simp)] at this
     exact this
    have HM:=ab (pZ ((aa Hv).step (aa Jt)) (aa H5))
    clear xv HEq
    go_wp2_with fail
    refine (aa HM).mono ?_
    intro e w6 hw
    rcases hw.split with ⟨y,hr,rfl,hg⟩|⟨x,s6,hr,rfl,h6,hg⟩
    ·refine ⟨rfl,?_⟩
     rw[aa rY,hr]
     exact ⟨rfl,(aa Jt).trans hg⟩
    ·have Wl:=ab hr
     have HG6:=ab ((aa Jt).trans hg)
     have HN:=ab (dx h6 ⟨#[59]⟩)
     clear hw hr hg h6 HM H5
     go_wp2_with fail
     refine (aa HN).mono ?_
     intro e w7 hw
     rcases hw.split with ⟨y,hr,rfl,hg⟩|⟨_,s7,hr,rfl,h7,hg⟩
     ·refine ⟨rfl,?_⟩
      rw[aa rY,aa Wl]
      simp only
      rw[hr]
      exact ⟨rfl,(aa HG6).trans hg⟩
     ·have HE:Hid (PR lb b W Value.string (bA s) (.returned (.string x)) w7):=by
       show PR lb b W Value.string (bA s) _ _
       rw[aa rY,aa Wl]
       simp only
       rw[hr]
       exact ⟨rfl,h7,(aa HG6).trans hg⟩
      clear hw hr hg h7
      go_wp2
      go_ret
      exact aa HE
end Go.Proofs.YtjophoclfccmcaaGreatDoor
namespace Go.Proofs.YtjophoclfccmcaaGreatDoor
open Go.RowKit
section
variable {P : Program} {ops : Array Oper} {Q : Exit → Act → World → Prop} {md : Region.Mode}
theorem qT {d:Array Bool}{i:Nat} (h:i ∈ Region.ready md ops d):∃hi:i<d.size,d[i]=false:=by
 have h1:=(mem_ready.1 h).1
 rcases Nat.lt_or_ge i d.size with hi|hi
 ·refine ⟨hi,?_⟩
  simpa[hi] using h1
 ·simp[Array.getElem?_eq_none hi] at h1
theorem sd (I:Array Bool→Act→World→Prop) (step:∀d a w i,I d a w→i ∈ Region.ready md ops d→wpOp P ops Q i (fun a' w'=>I (d.setIfInBounds i true) a' w') a w) (fin:∀d a w,I d a w→Region.ready md ops d=[]→Q .normal a w) :
  ∀(n:Nat) (d:Array Bool) (a:Act) (w:World),I d a w→d.count false≤n→wpAny P md ops Q n d a w
 |0,d,a,w,hI,hn=>by
  have hr:Region.ready md ops d=[]:=by
   apply List.eq_nil_iff_forall_not_mem.2
   intro i hi
   obtain ⟨h1,h2⟩:=qT hi
   have h3:0<d.count false:=Array.count_pos_iff.2 (by rw[←h2];exact Array.getElem_mem h1)
   omega
  exact ⟨hr,fin d a w hI hr⟩
 |n+1,d,a,w,hI,hn=>by
  refine ⟨fun hr=>fin d a w hI hr,fun i hi=>?_⟩
  refine wpOp_mono (fun a' w' h'=>sd I step fin n _ a' w' h' ?_) (step d a w i hI hi)
  obtain ⟨h1,h2⟩:=qT hi
  have h3:0<d.count false:=Array.count_pos_iff.2 (by rw[←h2];exact Array.getElem_mem h1)
  rw[Array.setIfInBounds_def,dif_pos h1,Array.count_set h1,h2]
  simp
  omega
theorem aI {α:Type}{d:Array α}{i j:Nat}{x z:α} (h:i≠j):(d.setIfInBounds i x).getD j z=d.getD j z:=by
 simp[Array.getD_eq_getD_getElem?,h]
theorem cq {α:Type}{d:Array α}{i:Nat}{x z:α} (h:i<d.size):(d.setIfInBounds i x).getD i z=x:=by
 simp[h]
theorem I9 {d:Array Bool}{i:Nat}{o:Oper} (cl:i<d.size) (hr:Region.ready md ops d=[]) (ho:ops[i]?=some o) (ZE:∀e ∈ o.after,Region.binds md e=true→d.getD e.on false=true):d.getD i false=true:=by
 by_cases h:d.getD i true=false
 ·have:i ∈ Region.ready md ops d:=mem_ready.2 ⟨h,o,ho,ZE⟩
  rw[hr] at this
  cases this
 ·simp[cl] at h ⊢
  exact h
def lL (ops:Array Oper) (i k:Nat):Prop:=∃o,ops[i]?=some o∧∃e ∈ o.after,Region.binds .any e=true∧e.on=k
def fL (ops:Array Oper) (i k:Nat):Bool:=match ops[i]? with
 |some o=>o.after.any fun e=>Region.binds .any e&&e.on==k
 |none=>false
theorem eR {i k:Nat} (h:fL ops i k=true):lL ops i k:=by
 unfold fL at h
 cases ho:ops[i]? with
 |none=>rw[ho] at h;cases h
 |some o =>
  rw[ho] at h
  simp only[Array.any_eq_true] at h
  obtain ⟨j,hj,h2⟩:=h
  rw[Bool.and_eq_true] at h2
  exact ⟨o,ho,o.after[j],Array.getElem_mem hj,h2.1,eq_of_beq h2.2⟩
def Jk (ops:Array Oper) (n:Nat):Bool:=(List.range n).all fun i=>match ops[i]? with
 |some o=>o.after.all fun e=>decide (e.on<i)
 |none=>true
theorem Jj {n:Nat} (hn:ops.size=n) (h:Jk ops n=true):∀(i:Nat) (o:Oper),ops[i]?=some o→∀e ∈ o.after,e.on<i:=by
 intro i o ho e he
 have hi:i<n:=by rw[←hn];exact (zA ho).1
 have h1:=List.all_eq_true.1 h i (List.mem_range.2 hi)
 rw[ho] at h1
 simp only[Array.all_eq_true] at h1
 obtain ⟨j,hj,rfl⟩:=Array.getElem_of_mem he
 exact of_decide_eq_true (h1 j hj)
def aac (ops:Array Oper) (z:Nat):Bool:=(List.range z).all fun i=>fL ops z i ||(List.range z).any fun j=>fL ops z j&&fL ops j i
theorem OO {z:Nat} (h:aac ops z=true):∀D:Nat→Prop,(∀k j,D k→lL ops k j→D j)→(∀j,lL ops z j→D j)→∀i,i<z→D i:=by
 intro D i' hD i hi
 have h1:=List.all_eq_true.1 h i (List.mem_range.2 hi)
 rw[Bool.or_eq_true] at h1
 rcases h1 with h1|h1
 ·exact hD i (eR h1)
 ·obtain ⟨j,_,h2⟩:=List.any_eq_true.1 h1
  rw[Bool.and_eq_true] at h2
  exact i' j i (hD j (eR h2.1)) (eR h2.2)
theorem dv {id z N c:Nat} (RH:P.follows .mixedOrders=true) (s:Nat→Nat) (val:Nat→Value) (Φ:Nat→Value→World→Prop) (iN:Array Value) (w0:World)
  (hn:ops.size=z+1) (hN:iN.size=N) (N9:∀i j,i<z→j<z→s i=s j→i=j) (hs:∀i,i<z→s i<N) (D9:Jk ops (z+1)=true)
  (hc:c+2<z) (w1:fL ops (c+1) c=true) (w2:fL ops (c+2) (c+1)=true) (hz:aac ops z=true) (h0:Φ 0 undef w0.drew)
  (quiet:∀k tm w,k<z→(k<c∨c+2<k)→tm.size=N→(∀j,(∀i,i<z→s i≠j)→tm.getD j undef=iN.getD j undef)→(∀j,(j<c∨c+2<j)→fL ops k j=true→tm.getD (s j) undef=val j)→(∃ph x,Φ ph x w) →
   wpOp P ops Q k (fun a' w'=>a'=⟨tm.setIfInBounds (s k) (val k),[]⟩∧w'=w) ⟨tm,[]⟩ w)
  (call:∀tm w,tm.size=N→(∀j,(∀i,i<z→s i≠j)→tm.getD j undef=iN.getD j undef)→(∀j,(j<c∨c+2<j)→fL ops c j=true→tm.getD (s j) undef=val j)→Φ 0 undef w→wpOp P ops Q c (fun a' w'=>∃x,a'=⟨tm.setIfInBounds (s c) x,[]⟩∧Φ 1 x w') ⟨tm,[]⟩ w)
  (bs:∀tm w x,tm.size=N→tm.getD (s c) undef=x→Φ 1 x w→wpOp P ops Q (c+1) (fun a' w'=>∃y,a'=⟨tm.setIfInBounds (s (c+1)) y,[]⟩∧Φ 2 y w') ⟨tm,[]⟩ w)
  (ap:∀tm w y,tm.size=N→(∀j,(j<c∨c+2<j)→fL ops (c+2) j=true→tm.getD (s j) undef=val j)→tm.getD (s (c+1)) undef=y→Φ 2 y w→wpOp P ops Q (c+2) (fun a' w'=>∃y',a'=⟨tm.setIfInBounds (s (c+2)) y',[]⟩∧Φ 3 y' w') ⟨tm,[]⟩ w)
  (last:∀tm w y,tm.size=N→(∀j,(∀i,i<z→s i≠j)→tm.getD j undef=iN.getD j undef)→(∀j,j<z→(j<c∨c+2<j)→tm.getD (s j) undef=val j)→tm.getD (s (c+2)) undef=y→Φ 3 y w→wpOp P ops Q z (fun a' w'=>Q .normal a' w') ⟨tm,[]⟩ w) :
  (Code.region id ops true).wp P Q ⟨iN,[]⟩ w0:=by
 have hb:=Jj hn D9
 have W1:=eR w1
 have W2:=eR w2
 refine wp_region_any RH (sd (md:=.any) (fun d a w=>d.size=z+1∧(∀k j,d.getD k false=true→lL ops k j→d.getD j false=true)∧((d.getD z false=false∧∃tm,a=⟨tm,[]⟩∧tm.size=N∧(∀j,(∀i,i<z→s i≠j)→tm.getD j undef=iN.getD j undef)∧(∀k,k<z→(k<c∨c+2<k)→d.getD k false=true→tm.getD (s k) undef=val k) ∧
   ((d.getD c false=false∧Φ 0 undef w)∨(d.getD c false=true∧d.getD (c+1) false=false∧Φ 1 (tm.getD (s c) undef) w)∨(d.getD (c+1) false=true∧d.getD (c+2) false=false∧Φ 2 (tm.getD (s (c+1)) undef) w)∨(d.getD (c+2) false=true∧Φ 3 (tm.getD (s (c+2)) undef) w))) ∨
   (d.getD z false=true∧Q .normal a w))) ?_ ?_ _ _ _ _ ?_ ?_)
 ·rintro d a w i ⟨hd,i',Od⟩ hr
  obtain ⟨hi,ud⟩:=qT hr
  obtain ⟨_,o,ho,iT⟩:=mem_ready.1 hr
  have jN:d.getD i false=false:=by simp[hi,ud]
  have hw:∀k,lL ops i k→d.getD k false=true:=by
   rintro k ⟨o',B1,e,he,hb,rfl⟩
   rw[ho] at B1
   obtain rfl:=zC B1
   exact iT e he hb
  have D7:∀k j,(d.setIfInBounds i true).getD k false=true→lL ops k j→(d.setIfInBounds i true).getD j false=true:=by
   intro k j hk hj
   by_cases e:j=i
   ·subst e
    exact cq hi
   ·rw[aI (Ne.symm e)]
    by_cases e2:k=i
    ·subst e2
     exact hw j hj
    ·rw[aI (Ne.symm e2)] at hk
     exact i' k j hk hj
  have iQ:(d.setIfInBounds i true).size=z+1:=by rw[Array.size_setIfInBounds];exact hd
  rcases Od with ⟨Gf,tm,rfl,h1,h2,h3,h4⟩|⟨Gf,hq⟩
  rotate_left
  ·exfalso
   have RL:i<z:=by
    rcases Nat.lt_or_ge i z with q|q
    ·exact q
    ·obtain rfl:i=z:=by omega
     rw[Gf] at jN;cases jN
   have:=OO hz (fun k=>d.getD k false=true) i' (fun j hj=>i' _ _ Gf hj) i RL
   rw[this] at jN;cases jN
  by_cases RL:i=z
  ·subst RL
   have kj:=OO hz (fun k=>d.getD k false=true) i' hw
   have h5:Φ 3 (tm.getD (s (c+2)) undef) w:=by
    rcases h4 with ⟨q,_⟩|⟨_,q,_⟩|⟨_,q,_⟩|⟨_,q⟩
    ·rw[kj c (by omega)] at q;cases q
    ·rw[kj (c+1) (by omega)] at q;cases q
    ·rw[kj (c+2) (by omega)] at q;cases q
    ·exact q
   refine wpOp_mono ?_ (last tm w _ h1 h2 (fun j hj hq=>h3 j hj hq (kj j hj)) rfl h5)
   intro a' w' hq
   exact ⟨iQ,D7,.inr ⟨cq hi,hq⟩⟩
  ·have B2:i<z:=by omega
   have hz':(d.setIfInBounds i true).getD z false=false:=by rw[aI RL];exact Gf
   have cB:∀x:Value,∀j,(∀i,i<z→s i≠j)→(tm.setIfInBounds (s i) x).getD j undef=iN.getD j undef:=fun x j hj=>by rw[aI (hj i B2)];exact h2 j hj
   have jM:∀(x:Value) k,k<z→k≠i→(tm.setIfInBounds (s i) x).getD (s k) undef=tm.getD (s k) undef:=fun x k hk eb=>aI (fun q=>eb (N9 i k B2 hk q).symm)
   by_cases DZ:i<c∨c+2<i
   ·refine wpOp_mono ?_ (quiet i tm w B2 DZ h1 h2 (fun j hjq hj=>h3 j (by have:=hb i o ho;obtain ⟨o',B1,e,he,_,rfl⟩:=eR hj;rw[ho] at B1;obtain rfl:=zC B1;have:=this e he;omega) hjq (hw j (eR hj))) (by rcases h4 with ⟨_,q⟩|⟨_,_,q⟩|⟨_,_,q⟩|⟨_,q⟩<;>exact ⟨_,_,q⟩))
    rintro a' w' ⟨rfl,rfl⟩
    refine ⟨iQ,D7,.inl ⟨hz',_,rfl,by rw[Array.size_setIfInBounds];exact h1,cB _,fun k hk hkq ZD=>?_,?_⟩⟩
    ·by_cases e:k=i
     ·subst e
      exact cq (by rw[h1];exact hs k hk)
     ·rw[aI (Ne.symm e)] at ZD
      rw[jM _ k hk e]
      exact h3 k hk hkq ZD
    ·rw[aI (show i≠c by omega),aI (show i≠c+1 by omega),aI (show i≠c+2 by omega),jM _ c (by omega) (by omega),jM _ (c+1) (by omega) (by omega),jM _ (c+2) (by omega) (by omega)]
     exact h4
   ·have A1:∀x:Value,∀k,k<z→(k<c∨c+2<k)→(d.setIfInBounds i true).getD k false=true→(tm.setIfInBounds (s i) x).getD (s k) undef=val k:=fun x k hk hkq ZD=>by
     rw[aI (show i≠k by omega)] at ZD
     rw[jM _ k hk (by omega)]
     exact h3 k hk hkq ZD
    have a8:∀j,(j<c∨c+2<j)→fL ops i j=true→tm.getD (s j) undef=val j:=fun j hjq hj=>h3 j (by have:=hb i o ho;obtain ⟨o',B1,e,he,_,rfl⟩:=eR hj;rw[ho] at B1;obtain rfl:=zC B1;have:=this e he;omega) hjq (hw j (eR hj))
    rcases (show i=c∨i=c+1∨i=c+2 by omega) with rfl|rfl|rfl
    ·rcases h4 with ⟨_,q⟩|⟨q,_⟩|⟨q,_⟩|⟨q,_⟩
     ·refine wpOp_mono ?_ (call tm w h1 h2 a8 q)
      rintro a' w' ⟨x,rfl,hx⟩
      refine ⟨iQ,D7,.inl ⟨hz',_,rfl,by rw[Array.size_setIfInBounds];exact h1,cB _,A1 x,.inr (.inl ⟨cq hi,?_,?_⟩)⟩⟩
      ·rw[aI (by omega)]
       apply Bool.eq_false_iff.2
       intro q2
       rw[i' _ _ q2 W1] at jN;cases jN
      ·rw[cq (by rw[h1];exact hs _ B2)]
       exact hx
     ·rw[q] at jN;cases jN
     ·rw[i' _ _ q W1] at jN;cases jN
     ·rw[i' _ _ (i' _ _ q W2) W1] at jN;cases jN
    ·rcases h4 with ⟨q,_⟩|⟨_,_,q⟩|⟨q,_⟩|⟨q,_⟩
     ·rw[hw _ W1] at q;cases q
     ·refine wpOp_mono ?_ (bs tm w _ h1 rfl q)
      rintro a' w' ⟨x,rfl,hx⟩
      refine ⟨iQ,D7,.inl ⟨hz',_,rfl,by rw[Array.size_setIfInBounds];exact h1,cB _,A1 x,.inr (.inr (.inl ⟨cq hi,?_,?_⟩))⟩⟩
      ·rw[aI (by omega)]
       apply Bool.eq_false_iff.2
       intro q2
       rw[i' _ _ q2 W2] at jN;cases jN
      ·rw[cq (by rw[h1];exact hs _ B2)]
       exact hx
     ·rw[q] at jN;cases jN
     ·rw[i' _ _ q W2] at jN;cases jN
    ·rcases h4 with ⟨q,_⟩|⟨_,q,_⟩|⟨_,_,q⟩|⟨q,_⟩
     ·rw[i' _ _ (hw _ W2) W1] at q;cases q
     ·rw[hw _ W2] at q;cases q
     ·refine wpOp_mono ?_ (ap tm w _ h1 a8 rfl q)
      rintro a' w' ⟨x,rfl,hx⟩
      refine ⟨iQ,D7,.inl ⟨hz',_,rfl,by rw[Array.size_setIfInBounds];exact h1,cB _,A1 x,.inr (.inr (.inr ⟨cq hi,?_⟩))⟩⟩
      rw[cq (by rw[h1];exact hs _ B2)]
      exact hx
     ·rw[q] at jN;cases jN
 ·rintro d a w ⟨hd,i',⟨Gf,_⟩|⟨_,hq⟩⟩ hr
  ·exfalso
   have iT:∀m i,i<m→i<z+1→d.getD i false=true:=by
    intro m
    induction m with
    |zero=>intro i hi;omega
    |succ m ih =>
     intro i hi Xj
     obtain ⟨o,ho⟩:∃o,ops[i]?=some o:=⟨_,Array.getElem?_eq_getElem (by omega)⟩
     exact I9 (by omega) hr ho fun e he _=>ih e.on (by have:=hb i o ho e he;omega) (by have:=hb i o ho e he;omega)
   rw[iT (z+1) z (by omega) (by omega)] at Gf;cases Gf
  ·exact hq
 ·have DY:∀k,(Array.replicate ops.size false).getD k false=false:=fun k=>by
   simp[Array.getD_eq_getD_getElem?,Array.getElem?_replicate]
   split<;>simp
  refine ⟨by simp[hn],fun k j hk _=>(by rw[DY k] at hk;cases hk),.inl ⟨DY z,iN,rfl,hN,fun _ _=>rfl,fun k _ _ hk=>(by rw[DY k] at hk;cases hk),.inl ⟨DY c,h0⟩⟩⟩
 ·simp
theorem nU {i:Nat}{o:Oper}{a:Act}{w w':World}{K:Act→World→Prop}{v:Value} (ho:ops[i]?=some o) (hg:o.guard=none) (hr:(execOp a.eval o).run P w=.ok (.value v) w') (hK:K (a.put o.dst v) w'):wpOp P ops Q i K a w:=by
 refine wpOp_step ho (fun K' ZO=>?_)
 have hw:Region.wanted o (yielded ops a.tmps)=true:=by simp[Region.wanted,hg]
 rw[if_pos hw]
 unfold Oper.wp
 rw[hr]
 exact ZO _ _ hK
theorem QS {i:Nat}{o:Oper}{a:Act}{w w':World}{K:Act→World→Prop} (ho:ops[i]?=some o) (hg:o.guard=none) (hr:(execOp a.eval o).run P w=.ok .skip w') (hK:K (a.put o.dst undef) w'):wpOp P ops Q i K a w:=by
 refine wpOp_step ho (fun K' ZO=>?_)
 have hw:Region.wanted o (yielded ops a.tmps)=true:=by simp[Region.wanted,hg]
 rw[if_pos hw]
 unfold Oper.wp
 rw[hr]
 exact ZO _ _ hK
theorem cE {i:Nat}{o:Oper}{a:Act}{w:World}{K:Act→World→Prop} (ho:ops[i]?=some o) (hg:o.guard=none) (f:FuncId) (rV:∀vs,(callFunc f vs).run P w=.ok (.enter f vs) w) (args:Array Operand) (PT:Array TypeId)
  (jX:o.op=.call { callee:=.value (.func f),args:=args,argTypes:=PT }) (vs:Array Value) (hv:args.map a.eval=vs) {R:Ending→World→Prop} (hc:Calls P f vs w R) (hK:∀e w',R e w'→(∃v,e=.returned v∧K (a.put o.dst v) w')∨∃ch,e=.panicked ch∧Q (.panic ch) a w'):wpOp P ops Q i K a w:=by
 refine wpOp_step ho (fun K' ZO=>?_)
 have hw:Region.wanted o (yielded ops a.tmps)=true:=by simp[Region.wanted,hg]
 rw[if_pos hw]
 have h2:Oper.wp P o a w K' Q=o.upon P a K' Q (.ok (.enter f vs) w):=by
  unfold Oper.wp
  simp[execOp,jX,resolve,invoke,←hv,Act.eval,Deferred.ofValue,rV]
 rw[h2,Oper.upon_enter]
 refine hc.mono ?_
 intro e w' hr
 rcases hK e w' hr with ⟨v,rfl,hk⟩|⟨ch,rfl,hq⟩
 ·exact ZO _ _ hk
 ·exact hq
theorem Io {S:Sem Value}{w w':World}{v:Value} (h:S.run P w=.ok v w'):((do pure (Next.value (←S))):Sem Next).run P w=.ok (.value v) w':=by
 simp[h]
theorem aY {i:Nat}{o:Oper}{a:Act}{w w':World}{K:Act→World→Prop}{v vx:Value} (ho:ops[i]?=some o) (hg:o.guard=none) (t:TypeId) (x:Operand) (jX:o.op=.load t x) (ex:a.eval x=vx) (hr:(Instr.loadAt t vx).run P w=.ok v w') (hK:K (a.put o.dst v) w'):wpOp P ops Q i K a w :=
 nU ho hg (by simp only[execOp,jX,ex,Sem.run_pure,Sem.run_bind,hr,Result.andThen_ok]) hK
end
end Go.Proofs.YtjophoclfccmcaaGreatDoor

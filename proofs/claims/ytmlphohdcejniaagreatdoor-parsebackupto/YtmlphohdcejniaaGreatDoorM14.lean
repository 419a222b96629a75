import Derived.Test.YtmlphohdcejniaaGreatDoorM13
set_option maxHeartbeats 4000000
set_option maxRecDepth 100000
namespace Go.Proofs.YtmlphohdcejniaaGreatDoor
open Go.RowKit Go.Shelf
attribute [local go_sem ↓] Go.wp_at_zero Go.wp_at_succ
def aI.begun (s:aI):aI:={ s with bg:=true }
noncomputable def gg (o:Int) (s:aI):Except (Int×Int) (Fd×aI):=gZ ⟨1,⟨#[]⟩,⟨#[]⟩,⟨#[]⟩,0,o⟩ s.begun
noncomputable def db (c:Int) (s:aI):Except (Int×Int) (Fd×aI):=match bE s.begun with
 |.error e=>.error e
 |.ok (_,s1)=>if dD s1.here 1 ⟨#[103,114,111,117,112]⟩=true then .error (52,s1.here.spot) else gZ ⟨c,⟨#[]⟩,⟨#[]⟩,⟨#[]⟩,0,0⟩ s1
noncomputable def mj (s:aI):Except (Int×Int) (ByteArray×aI):=bO bZ s.begun
theorem fe {lb b:Nat}{W:World}{s:aI} (h:Rd lb W b s):Calls Tryz.prog 120 #[.pointer (some ⟨b,0,none⟩)] W fun e w=>e=.returned (.tuple #[])∧Rd lb w b s.begun∧W.grownBy w (some b):=I7 h
theorem LV {lb b:Nat}{V W:World}{s:aI} (hv:Env V W b) (h:Rd lb W b s):Calls Tryz.prog 177 #[.pointer (some ⟨b,0,none⟩)] W (PR lb b W Value.string (mj s)):=by
 have hc:=aj (fe h)
 have Hv:=aj hv
 clear h hv
 go_enter Tryz.func177,Tryz.ntmps177
 go_wp2_with fail
 refine (aa hc).mono ?_
 rintro e w1 ⟨rfl,h1,hg⟩
 have HC:=aj (qv ((aa Hv).step hg) h1)
 have Hg:=aj hg
 clear h1 hg hc
 go_wp2_with fail
 refine (aa HC).mono ?_
 intro e w2 hw
 have HW:Hid (PR lb b W Value.string (mj s) e w2):=hw.pre (aa Hg)
 rcases hw.shape with ⟨y,rfl⟩|⟨a,rfl⟩
 ·exact ⟨rfl,aa HW⟩
 ·clear hw HC
  go_wp2
  go_ret
  exact aa HW
theorem qo {lb b:Nat}{V W:World}{s:aI} (o:Int) (hv:Env V W b) (h:Rd lb W b s) (hs:Sm s) (hn:s.ts.length≤16384):Calls Tryz.prog 126 #[.pointer (some ⟨b,0,none⟩),.int .i64 o] W (PR lb b W Fd.val (gg o s)):=by
 have eA:=h.low
 have bH:Below W.heap.size W (W.alloc (.cells #[.int .i64 0,.string ⟨#[]⟩,.string ⟨#[]⟩,.string ⟨#[]⟩,.int .i64 0,.int .i64 0] 70)):=(zE _ _).alloc (zD _) _
 have fF:(W.alloc (.cells #[.int .i64 0,.string ⟨#[]⟩,.string ⟨#[]⟩,.string ⟨#[]⟩,.int .i64 0,.int .i64 0] 70)).heap[W.heap.size]?=some (.cells #[.int .i64 0,.string ⟨#[]⟩,.string ⟨#[]⟩,.string ⟨#[]⟩,.int .i64 0,.int .i64 0] 70 (0,0)):=aC _ _
 have hc:=aj (fe (h.up bH))
 have rJ:=aj (aA b bH)
 have Hv:=aj (hv.step (aA b bH))
 have xh:=aj fF
 have HS:=aj hs
 clear fF bH h hv hs
 have HEq:Hid (gg o s=gZ ⟨1,⟨#[]⟩,⟨#[]⟩,⟨#[]⟩,0,o⟩ s.begun):=rfl
 go_enter Tryz.func126,Tryz.ntmps126
 go_wp2_with fail
 refine (aa hc).mono ?_
 rintro e w1 ⟨rfl,h1,kk⟩
 have HC:=aj (rz ⟨1,⟨#[]⟩,⟨#[]⟩,⟨#[]⟩,0,o⟩ ((aa Hv).step kk) h1 (aa HS) hn)
 have Q2:=aj ((kk.block W.heap.size (zA (aa xh)).1 (by simp;omega)).trans (aa xh))
 have zb:=aj ((aa rJ).trans kk)
 unfold Fd.val Fd.arr at HC
 simp only at HC
 clear h1 kk hc xh rJ Hv
 go_wp2_with fail
 refine (aa HC).mono ?_
 intro e w2 hw
 rcases hw.split with ⟨y,hr,rfl,hg⟩|⟨d2,s2,hr,rfl,h2,hg⟩
 ·refine ⟨rfl,?_⟩
  rw[aa HEq,hr]
  exact ⟨rfl,(aa zb).trans hg⟩
 ·obtain ⟨c9,k9,t9,n9,m9,o9⟩:=d2
  unfold Fd.val Fd.arr
  simp only
  have p2:=(hg.block W.heap.size (zA (aa Q2)).1 (by simp;omega)).trans (aa Q2)
  obtain ⟨⟨v0,v1,v2,v3,v4,v5⟩,vf⟩:=ir p2
  have e0:=vf 0
  have e1:=vf 1
  have e2:=vf 2
  have e3:=vf 3
  have e4:=vf 4
  have e5:=vf 5
  obtain ⟨r1,r2⟩:=jZ p2 (.int .i64 c9) (.string k9) (.string t9) (.string n9) (.int .i64 m9) (.int .i64 o9)
  have HE:Hid (PR lb b W Fd.val (gg o s) (.returned (.agg #[.int .i64 c9,.string k9,.string t9,.string n9,.int .i64 m9,.int .i64 o9])) (nA w2 W.heap.size (.int .i64 c9) (.string k9) (.string t9) (.string n9) (.int .i64 m9) (.int .i64 o9))):=by
   show PR lb b W Fd.val (gg o s) _ _
   rw[aa HEq,hr]
   exact ⟨rfl,gf h2 r2 (by omega),cW ((aa zb).trans hg) r2 (zD _)⟩
  have R1:=aj r1
  unfold nA at HE R1
  clear hw hr hg h2 p2 vf r1 r2 Q2 zb HEq
  go_wp2
  exact bodyPost_ret (results_cell_row rfl _ _ W.heap.size 70 #[.int .i64 c9,.string k9,.string t9,.string n9,.int .i64 m9,.int .i64 o9] (0,0) _ rfl (aa R1) Tryz.underlying70 rfl ng) rfl (aa HE)
theorem px {lb b:Nat}{V W:World}{s:aI} (c:Int) (hv:Env V W b) (h:Rd lb W b s) (hs:Sm s) (hn:s.ts.length≤16384) (hp:0<s.ts.length):Calls Tryz.prog 158 #[.pointer (some ⟨b,0,none⟩),.int .i64 c] W (PR lb b W Fd.val (db c s)):=by
 have eA:=h.low
 have bH:Below W.heap.size W (W.alloc (.cells #[.int .i64 0,.string ⟨#[]⟩,.string ⟨#[]⟩,.string ⟨#[]⟩,.int .i64 0,.int .i64 0] 70)):=(zE _ _).alloc (zD _) _
 have fF:(W.alloc (.cells #[.int .i64 0,.string ⟨#[]⟩,.string ⟨#[]⟩,.string ⟨#[]⟩,.int .i64 0,.int .i64 0] 70)).heap[W.heap.size]?=some (.cells #[.int .i64 0,.string ⟨#[]⟩,.string ⟨#[]⟩,.string ⟨#[]⟩,.int .i64 0,.int .i64 0] 70 (0,0)):=aC _ _
 have hc:=aj (fe (h.up bH))
 have rJ:=aj (aA b bH)
 have Hv:=aj (hv.step (aA b bH))
 have xh:=aj fF
 have HS:=aj hs
 clear fF bH h hv hs
 go_enter Tryz.func158,Tryz.ntmps158
 go_wp2_with fail
 refine (aa hc).mono ?_
 rintro e w1 ⟨rfl,h1,kk⟩
 have HN:=aj (cY h1 hp)
 have pU:=aj kk
 clear h1 kk hc
 go_wp2_with fail
 refine (aa HN).mono ?_
 intro e w3 hw
 rcases hw.split with ⟨y,hr,rfl,hg⟩|⟨_,s3,hr,rfl,h3,hg⟩
 ·refine ⟨rfl,?_⟩
  unfold db
  rw[hr]
  exact ⟨rfl,((aa rJ).trans (aa pU)).trans hg⟩
 ·have Sx:kP s s3:=⟨1,by rw[nj hr,List.drop_one];rfl,lQ (s:=s.begun) hr⟩
  have Hr:=aj hr
  have H3:=aj h3
  have Li:=((aa Hv).step (aa pU)).step hg
  have Hv3:=aj Li
  have Ds:=aj (((aa rJ).trans (aa pU)).trans hg)
  have X7:=aj (((aa pU).trans hg).block W.heap.size (zA (aa xh)).1 (by simp;omega) |>.trans (aa xh))
  have Sy:=Sx.len
  have Hsm:=aj (Sx.sm (aa HS))
  clear hw hr hg h3 Li Sx HN pU rJ xh Hv
  go_wp2_with fail
  refine (eV (aa H3)).mono ?_
  rintro e w4 ⟨rfl,eR⟩
  have H4:=aj ((aa H3).up eR)
  have Nh:=aj ((aa Ds).trans (aA b eR))
  have Hv4:=aj ((aa Hv3).step (aA b eR))
  have HX4:=aj ((eR.block W.heap.size (zA (aa X7)).1).trans (aa X7))
  have hI:Hid (∀w,Calls Tryz.prog 118 #[s3.here.val,.int .i64 1,.string ⟨#[103,114,111,117,112]⟩] w fun e w'=>e=.returned (.bool (dD s3.here 1 ⟨#[103,114,111,117,112]⟩))∧Below w.heap.size w w'):=fun w=>qz w s3.here 1 _
  have M8:Hid (∃p q r,s3.here.val=.agg #[p,q,r]):=⟨_,_,_,rfl⟩
  obtain ⟨p,q,r,De⟩:=aa M8
  rw[De] at hI ⊢
  clear eR M8 De H3 Ds Hv3 X7
  go_wp2_with fail
  refine (aa hI w4).mono ?_
  rintro e w5 ⟨rfl,jf⟩
  have H5:=aj ((aa H4).up jf)
  have zb:=aj ((aa Nh).trans (aA b jf))
  have Hv5:=aj ((aa Hv4).step (aA b jf))
  have Q2:=aj ((jf.block W.heap.size (zA (aa HX4)).1).trans (aa HX4))
  clear jf hI H4 Nh Hv4 HX4
  cases Jo:dD s3.here 1 ⟨#[103,114,111,117,112]⟩ with
  |true =>
   have Hp:=aj Jo
   clear Jo
   go_wp2_with fail
   refine (j3 (aa H5)).mono ?_
   rintro e w6 ⟨rfl,IC⟩
   refine ⟨rfl,?_⟩
   unfold db
   rw[aa Hr]
   simp only
   rw[if_pos (aa Hp)]
   exact ⟨rfl,(aa zb).trans (aA b IC)⟩
  |false =>
   have HEq:Hid (db c s=gZ ⟨c,⟨#[]⟩,⟨#[]⟩,⟨#[]⟩,0,0⟩ s3):=by
    show _=_
    unfold db
    rw[aa Hr]
    simp only
    rw[if_neg (by rw[Jo];simp)]
   have HC:=aj (rz ⟨c,⟨#[]⟩,⟨#[]⟩,⟨#[]⟩,0,0⟩ (aa Hv5) (aa H5) (aa Hsm) (by omega))
   unfold Fd.val Fd.arr at HC
   simp only at HC
   clear Jo
   go_wp2_with fail
   refine (aa HC).mono ?_
   intro e w2 hw
   rcases hw.split with ⟨y,hr,rfl,hg⟩|⟨d2,s2,hr,rfl,h2,hg⟩
   ·refine ⟨rfl,?_⟩
    rw[aa HEq,hr]
    exact ⟨rfl,(aa zb).trans hg⟩
   ·obtain ⟨c9,k9,t9,n9,m9,o9⟩:=d2
    unfold Fd.val Fd.arr
    simp only
    have p2:=(hg.block W.heap.size (zA (aa Q2)).1 (by simp;omega)).trans (aa Q2)
    obtain ⟨⟨v0,v1,v2,v3,v4,v5⟩,vf⟩:=ir p2
    have e0:=vf 0
    have e1:=vf 1
    have e2:=vf 2
    have e3:=vf 3
    have e4:=vf 4
    have e5:=vf 5
    obtain ⟨r1,r2⟩:=jZ p2 (.int .i64 c9) (.string k9) (.string t9) (.string n9) (.int .i64 m9) (.int .i64 o9)
    have HE:Hid (PR lb b W Fd.val (db c s) (.returned (.agg #[.int .i64 c9,.string k9,.string t9,.string n9,.int .i64 m9,.int .i64 o9])) (nA w2 W.heap.size (.int .i64 c9) (.string k9) (.string t9) (.string n9) (.int .i64 m9) (.int .i64 o9))):=by
     show PR lb b W Fd.val (db c s) _ _
     rw[aa HEq,hr]
     exact ⟨rfl,gf h2 r2 (by omega),cW ((aa zb).trans hg) r2 (zD _)⟩
    have R1:=aj r1
    unfold nA at HE R1
    clear hw hr hg h2 p2 vf r1 r2 Q2 zb HEq
    go_wp2
    exact bodyPost_ret (results_cell_row rfl _ _ W.heap.size 70 #[.int .i64 c9,.string k9,.string t9,.string n9,.int .i64 m9,.int .i64 o9] (0,0) _ rfl (aa R1) Tryz.underlying70 rfl ng) rfl (aa HE)
noncomputable def iX (s:aI):Except (Int×Int) ((ByteArray×Int)×aI):=match cq s.begun with
 |.error e=>.error e
 |.ok (x,s1)=>match dh (-2147483648) 2147483647 true s1 with
  |.error e=>.error e
  |.ok (n,s2)=>.ok ((x,n),s2)
def NP (p:ByteArray×Int):Value:=.agg #[.string p.1,.int .i64 p.2]
theorem RJ:(Tryz.prog.info? 94).map (·.size)=some 2:=by kernel_rfl
theorem AN {w:World}{g:Nat}{a0 a1:Value}{t:TypeId} (h:w.heap[g]?=some (.cells #[a0,a1] t (0,0))):(w.cell? ⟨g,0,none⟩=some a0∧w.cell? ⟨g,1,none⟩=some a1)∧∀j,w.frozen? ⟨g,j,none⟩=false:=by
 refine ⟨⟨?_,?_⟩,fun j=>by simp[World.frozen?,h]⟩<;>rw[cell_of_row _ _ _ _ _ _ h]<;>rfl
def zr (w:World) (g:Nat) (a0 a1:Value):World:=(w.setCell ⟨g,0,none⟩ a0).setCell ⟨g,1,none⟩ a1
theorem u7 {w:World}{g:Nat}{b0 b1:Value}{t:TypeId} (h:w.heap[g]?=some (.cells #[b0,b1] t (0,0))) (a0 a1:Value):(zr w g a0 a1).heap[g]?=some (.cells #[a0,a1] t (0,0))∧w.grownBy (zr w g a0 a1) (some g):=by
 obtain ⟨h0,g0⟩:=aJ (j:=0) h a0
 obtain ⟨h1,g1⟩:=aJ (j:=1) h0 a1
 exact ⟨h1,g0.trans g1⟩
theorem GA {lb b:Nat}{V W:World}{s:aI} (hv:Env V W b) (h:Rd lb W b s) (hs:Sm s):Calls Tryz.prog 129 #[.pointer (some ⟨b,0,none⟩)] W (PR lb b W NP (iX s)):=by
 have eA:=h.low
 have bH:Below W.heap.size W (W.alloc (.cells #[.string ⟨#[]⟩,.int .i64 0] 94)):=(zE _ _).alloc (zD _) _
 have fF:(W.alloc (.cells #[.string ⟨#[]⟩,.int .i64 0] 94)).heap[W.heap.size]?=some (.cells #[.string ⟨#[]⟩,.int .i64 0] 94 (0,0)):=aC _ _
 have hc:=aj (fe (h.up bH))
 have rJ:=aj (aA b bH)
 have Hv:=aj (hv.step (aA b bH))
 have xh:=aj fF
 have HS:=aj hs
 clear fF bH h hv hs
 go_enter Tryz.func129,Tryz.ntmps129
 go_wp2_with fail
 refine (aa hc).mono ?_
 rintro e w1 ⟨rfl,h1,kk⟩
 have HN:=aj (j5 h1 (aa HS))
 have pU:=aj kk
 clear h1 kk hc
 go_wp2_with fail
 refine (aa HN).mono ?_
 intro e w3 hw
 rcases hw.split with ⟨y,hr,rfl,hg⟩|⟨x,s3,hr,rfl,h3,hg⟩
 ·refine ⟨rfl,?_⟩
  unfold iX
  rw[hr]
  exact ⟨rfl,((aa rJ).trans (aa pU)).trans hg⟩
 ·have Hr:=aj hr
  have HC:=aj (pR (-2147483648) 2147483647 true (((aa Hv).step (aa pU)).step hg) h3)
  have zb:=aj (((aa rJ).trans (aa pU)).trans hg)
  have Q2:=aj (((aa pU).trans hg).block W.heap.size (zA (aa xh)).1 (by simp;omega) |>.trans (aa xh))
  clear hw hr hg h3 HN pU rJ xh Hv
  go_wp2_with fail
  refine (aa HC).mono ?_
  intro e w2 hw
  rcases hw.split with ⟨y,hr,rfl,hg⟩|⟨n,s2,hr,rfl,h2,hg⟩
  ·refine ⟨rfl,?_⟩
   unfold iX
   rw[aa Hr]
   simp only
   rw[hr]
   exact ⟨rfl,(aa zb).trans hg⟩
  ·have p2:=(hg.block W.heap.size (zA (aa Q2)).1 (by simp;omega)).trans (aa Q2)
   obtain ⟨⟨v0,v1⟩,vf⟩:=AN p2
   have e0:=vf 0
   have e1:=vf 1
   obtain ⟨r1,r2⟩:=u7 p2 (.string x) (.int .i64 n)
   have HE:Hid (PR lb b W NP (iX s) (.returned (.agg #[.string x,.int .i64 n])) (zr w2 W.heap.size (.string x) (.int .i64 n))):=by
    show PR lb b W NP (iX s) _ _
    unfold iX
    rw[aa Hr]
    simp only
    rw[hr]
    exact ⟨rfl,gf h2 r2 (by omega),cW ((aa zb).trans hg) r2 (zD _)⟩
   have R1:=aj r1
   unfold zr at HE R1
   clear hw hr hg h2 p2 vf r1 r2 Q2 zb HC Hr
   unfold qA
   go_wp2
   exact bodyPost_ret (results_cell_row rfl _ _ W.heap.size 94 #[.string x,.int .i64 n] (0,0) _ rfl (aa R1) Tryz.underlying94 rfl RJ) rfl (aa HE)
noncomputable def kK (lo hi:Int) (mi:Bool) (s:aI):Except (Int×Int) ((Int×Int)×aI):=match fm lo hi mi s.begun with
 |.error e=>.error e
 |.ok (n,s1)=>match cw 1 ⟨#[116,111]⟩ s1 with
  |.error e=>.error e
  |.ok (false,s2)=>.ok ((n,n),s2)
  |.ok (true,s2)=>match cw 1 ⟨#[109,97,120]⟩ s2 with
   |.error e=>.error e
   |.ok (true,s3)=>.ok ((n,hi),s3)
   |.ok (false,s3)=>match fm n hi mi s3 with
    |.error e=>.error e
    |.ok (m,s4)=>.ok ((n,m),s4)
def Ov (p:Int×Int):Value:=.agg #[.int .i64 p.1,.int .i64 p.2]
theorem DJ:(Tryz.prog.info? 111).map (·.size)=some 2:=by kernel_rfl
theorem ET {w:World}{g:Nat}{a0 a1 a2:Value}{t:TypeId} (h:w.heap[g]?=some (.cells #[a0,a1,a2] t (0,0))):(w.cell? ⟨g,0,none⟩=some a0∧w.cell? ⟨g,1,none⟩=some a1∧w.cell? ⟨g,2,none⟩=some a2)∧∀j,w.frozen? ⟨g,j,none⟩=false:=by
 refine ⟨⟨?_,?_,?_⟩,fun j=>by simp[World.frozen?,h]⟩<;>rw[cell_of_row _ _ _ _ _ _ h]<;>rfl
structure Rw (lb b g:Nat) (V W0:World) (lo hi:Int) (mi:Bool) (s:aI) (w:World):Prop where
 rd:Rd lb w b s
 env:Env V w b
 bx:w.heap[g]?=some (.cells #[.int .i64 lo,.int .i64 hi,.bool mi] 196 (0,0))
 rs:w.heap[g+1]?=some (.cells #[.int .i64 0,.int .i64 0] 111 (0,0))
 gr:W0.grownBy w (some b)
 lw:lb≤W0.heap.size∧W0.heap.size≤g∧b<lb
theorem Rw.step {lb b g:Nat}{V W0 w w':World}{lo hi:Int}{mi:Bool}{s s':aI} (h:Rw lb b g V W0 lo hi mi s w) (hr:Rd lb w' b s') (hg:w.grownBy w' (some b)):Rw lb b g V W0 lo hi mi s' w' :=
 ⟨hr,h.env.step hg,(hg.block g (zA h.bx).1 (by have:=h.lw;simp;omega)).trans h.bx,(hg.block (g+1) (zA h.rs).1 (by have:=h.lw;simp;omega)).trans h.rs,h.gr.trans hg,h.lw⟩
theorem Rw.done {lb b g:Nat}{V W0 w:World}{lo hi:Int}{mi:Bool}{s:aI} (h:Rw lb b g V W0 lo hi mi s w) (p:Int×Int) {r:Except (Int×Int) ((Int×Int)×aI)} (hr:r=.ok (p,s)):PR lb b W0 Ov r (.returned (.agg #[.int .i64 p.1,.int .i64 p.2])) (zr w (g+1) (.int .i64 p.1) (.int .i64 p.2))∧(zr w (g+1) (.int .i64 p.1) (.int .i64 p.2)).heap[g+1]?=some (.cells #[.int .i64 p.1,.int .i64 p.2] 111 (0,0)):=by
 obtain ⟨r1,r2⟩:=u7 h.rs (.int .i64 p.1) (.int .i64 p.2)
 have:=h.lw
 subst hr
 exact ⟨⟨rfl,gf h.rd r2 (by omega),cW h.gr r2 (by omega)⟩,r1⟩
theorem G2 {lb b:Nat}{V W:World}{s:aI} (lo hi:Int) (mi:Bool) (hv:Env V W b) (h:Rd lb W b s):Calls Tryz.prog 175 #[.pointer (some ⟨b,0,none⟩),.agg #[.int .i64 lo,.int .i64 hi,.bool mi]] W (PR lb b W Ov (kK lo hi mi s)):=by
 have eA:=h.low
 have bH:Below W.heap.size W ((W.alloc (.cells #[.int .i64 lo,.int .i64 hi,.bool mi] 196)).alloc (.cells #[.int .i64 0,.int .i64 0] 111)):=((zE _ _).alloc (zD _) _).alloc (by rw[zJ];omega) _
 have nT:((W.alloc (.cells #[.int .i64 lo,.int .i64 hi,.bool mi] 196)).alloc (.cells #[.int .i64 0,.int .i64 0] 111)).heap[W.heap.size]?=some (.cells #[.int .i64 lo,.int .i64 hi,.bool mi] 196 (0,0)):=(Below.heap_alloc _ _ _ (by rw[zJ];omega)).trans (aC _ _)
 have fF:((W.alloc (.cells #[.int .i64 lo,.int .i64 hi,.bool mi] 196)).alloc (.cells #[.int .i64 0,.int .i64 0] 111)).heap[W.heap.size+1]?=some (.cells #[.int .i64 0,.int .i64 0] 111 (0,0)):=by
  have:=aC (W.alloc (.cells #[.int .i64 lo,.int .i64 hi,.bool mi] 196)) (.cells #[.int .i64 0,.int .i64 0] 111)
  rw[zJ] at this
  exact this
 have hR:Rw lb b W.heap.size V W lo hi mi s ((W.alloc (.cells #[.int .i64 lo,.int .i64 hi,.bool mi] 196)).alloc (.cells #[.int .i64 0,.int .i64 0] 111)):=⟨h.up bH,hv.step (aA b bH),nT,fF,aA b bH,eA.2,zD _,eA.1⟩
 have hc:=aj (fe hR.rd)
 have HR:=aj hR
 clear nT fF bH h hv hR
 go_enter Tryz.func175,Tryz.ntmps175
 go_wp2_with fail
 refine (aa hc).mono ?_
 rintro e w1 ⟨rfl,h1,kk⟩
 have Jt:=aj ((aa HR).step h1 kk)
 obtain ⟨⟨x0,x1,x2⟩,_⟩:=ET (aa Jt).bx
 have HN:=aj (mK lo hi mi (aa Jt).env (aa Jt).rd)
 clear h1 kk hc HR
 go_wp2_with fail
 refine (aa HN).mono ?_
 intro e w2 hw
 rcases hw.split with ⟨y,hr,rfl,hg⟩|⟨n,s2,hr,rfl,h2,hg⟩
 ·refine ⟨rfl,?_⟩
  unfold kK
  rw[hr]
  exact ⟨rfl,(aa Jt).gr.trans hg⟩
 ·have Jg:=aj ((aa Jt).step h2 hg)
  have NT:=aj hr
  clear hw hr hg h2 HN Jt x0 x1 x2
  unfold qA
  go_wp2_with fail
  refine (lI (aa Jg).rd _).mono ?_
  intro e w3 hw
  rcases hw.split with ⟨y,hr,rfl,hg⟩|⟨f,s3,hr,rfl,h3,hg⟩
  ·refine ⟨rfl,?_⟩
   unfold kK
   rw[aa NT]
   simp only
   rw[hr]
   exact ⟨rfl,(aa Jg).gr.trans hg⟩
  ·have Q7:=aj ((aa Jg).step h3 hg)
   have ZL:=aj hr
   clear hw hr hg h3 Jg
   cases f with
   |false =>
    have mD:kK lo hi mi s=.ok ((n,n),s3):=by
     unfold kK
     rw[aa NT]
     simp only
     rw[aa ZL]
    obtain ⟨d1,d2⟩:=(aa Q7).done (n,n) mD
    obtain ⟨⟨v0,v1⟩,vf⟩:=AN (aa Q7).rs
    have e0:=vf 0
    have e1:=vf 1
    have D1:=aj d1
    have D2:=aj d2
    unfold zr at D1 D2
    clear mD d1 d2 vf
    go_wp2
    exact bodyPost_ret (results_cell_row rfl _ _ (W.heap.size+1) 111 #[.int .i64 n,.int .i64 n] (0,0) _ rfl (aa D2) Tryz.underlying111 rfl DJ) rfl (aa D1)
   |true =>
    go_wp2_with fail
    refine (lI (aa Q7).rd _).mono ?_
    intro e w4 hw
    rcases hw.split with ⟨y,hr,rfl,hg⟩|⟨f,s4,hr,rfl,h4,hg⟩
    ·refine ⟨rfl,?_⟩
     unfold kK
     rw[aa NT]
     simp only
     rw[aa ZL]
     simp only
     rw[hr]
     exact ⟨rfl,(aa Q7).gr.trans hg⟩
    ·have Js:=aj ((aa Q7).step h4 hg)
     have P2:=aj hr
     obtain ⟨⟨x0,x1,x2⟩,xf⟩:=ET (aa Js).bx
     clear hw hr hg h4 Q7
     cases f with
     |true =>
      have mD:kK lo hi mi s=.ok ((n,hi),s4):=by
       unfold kK
       rw[aa NT]
       simp only
       rw[aa ZL]
       simp only
       rw[aa P2]
      obtain ⟨d1,d2⟩:=(aa Js).done (n,hi) mD
      obtain ⟨⟨v0,v1⟩,vf⟩:=AN (aa Js).rs
      have e0:=vf 0
      have e1:=vf 1
      have D1:=aj d1
      have D2:=aj d2
      unfold zr at D1 D2
      clear mD d1 d2 vf xf
      go_wp2
      exact bodyPost_ret (results_cell_row rfl _ _ (W.heap.size+1) 111 #[.int .i64 n,.int .i64 hi] (0,0) _ rfl (aa D2) Tryz.underlying111 rfl DJ) rfl (aa D1)
     |false =>
      have f0:=xf 0
      obtain ⟨k1,k2⟩:=aJ (j:=0) (aa Js).bx (.int .i64 n)
      simp only[zM] at k1
      have WG:=(aa Js).lw
      have hVb:=(aa Js).env.lo
      have Xg:Rw lb b W.heap.size V W n hi mi s4 (w4.setCell ⟨W.heap.size,0,none⟩ (.int .i64 n)):=⟨gf (aa Js).rd k2 (by omega),ud (aa Js).env k2 (by omega),k1,(k2.block (W.heap.size+1) (zA (aa Js).rs).1 (by simp)).trans (aa Js).rs,cW (aa Js).gr k2 (zD _),WG⟩
      obtain ⟨⟨z0,z1,z2⟩,_⟩:=ET Xg.bx
      have HR5:=aj Xg
      have HN:=aj (mK n hi mi Xg.env Xg.rd)
      clear k1 k2 Xg xf
      go_wp2_with fail
      refine (aa HN).mono ?_
      intro e w6 hw
      have mD:∀z,fm n hi mi s4=z→kK lo hi mi s=(match z with|.error e=>.error e|.ok (m,s5)=>.ok ((n,m),s5)):=fun z hz=>by
       unfold kK
       rw[aa NT]
       simp only
       rw[aa ZL]
       simp only
       rw[aa P2]
       simp only
       rw[hz]
      rcases hw.split with ⟨y,hr,rfl,hg⟩|⟨m,s6,hr,rfl,h6,hg⟩
      ·refine ⟨rfl,?_⟩
       rw[mD _ hr]
       exact ⟨rfl,(aa HR5).gr.trans hg⟩
      ·have hR6:=(aa HR5).step h6 hg
       obtain ⟨d1,d2⟩:=hR6.done (n,m) (mD _ hr)
       obtain ⟨⟨v0,v1⟩,vf⟩:=AN hR6.rs
       have e0:=vf 0
       have e1:=vf 1
       have D1:=aj d1
       have D2:=aj d2
       unfold zr at D1 D2
       clear mD d1 d2 vf hw hr hg h6 hR6 z0 z1 z2 x0 x1 x2 HN HR5 Js
       unfold qA
       go_wp2
       exact bodyPost_ret (results_cell_row rfl _ _ (W.heap.size+1) 111 #[.int .i64 n,.int .i64 m] (0,0) _ rfl (aa D2) Tryz.underlying111 rfl DJ) rfl (aa D1)
noncomputable def vL (s:aI):Except (Int×Int) (Fd×aI):=match bE s.begun with
 |.error e=>.error e
 |.ok (_,s1)=>match aW ⟨#[60]⟩ s1 with
  |.error e=>.error e
  |.ok (_,s2)=>match dE true s2 with
   |.error e=>.error e
   |.ok (k,s3)=>match aW ⟨#[44]⟩ s3 with
    |.error e=>.error e
    |.ok (_,s4)=>match dE true s4 with
     |.error e=>.error e
     |.ok (t,s5)=>match aW ⟨#[62]⟩ s5 with
      |.error e=>.error e
      |.ok (_,s6)=>Ib ⟨4,k,t,⟨#[]⟩,0,0⟩ s6
noncomputable def cx (s:aI):Except (Int×Int) (Fd×aI):=if dD (s.ahead 1) 4 ⟨#[60]⟩=true then vL s else gg 0 s
theorem bN {x:ByteArray}{s s1:aI}{u:Unit} (h:aW x s=.ok (u,s1)):kP s s1:=by
 unfold aW at h
 cases ht:cw 4 x s with
 |error e=>rw[ht] at h;cases h
 |ok y =>
  obtain ⟨f,s2⟩:=y
  rw[ht] at h
  cases f with
  |false=>cases h
  |true =>
   simp only[Except.ok.injEq,Prod.mk.injEq] at h
   rw[←h.2]
   exact dK ht
theorem qj {s s1:aI}{u:Unit} (h:bE s.begun=.ok (u,s1)):kP s s1:=⟨1,by rw[nj h,List.drop_one];rfl,lQ (s:=s.begun) h⟩
structure Mw (lb b g:Nat) (V W0:World) (s0 s:aI) (w:World):Prop where
 rd:Rd lb w b s
 env:Env V w b
 rs:w.heap[g]?=some (.cells #[.int .i64 0,.string ⟨#[]⟩,.string ⟨#[]⟩,.string ⟨#[]⟩,.int .i64 0,.int .i64 0] 70 (0,0))
 gr:W0.grownBy w (some b)
 lw:lb≤W0.heap.size∧W0.heap.size=g∧b<lb
 sf:kP s0 s
theorem Mw.step {lb b g:Nat}{V W0 w w':World}{s0 s s':aI} (h:Mw lb b g V W0 s0 s w) (hr:Rd lb w' b s') (hg:w.grownBy w' (some b)) (hs:kP s s'):Mw lb b g V W0 s0 s' w' :=
 ⟨hr,h.env.step hg,(hg.block g (zA h.rs).1 (by have:=h.lw;simp;omega)).trans h.rs,h.gr.trans hg,h.lw,h.sf.trans hs⟩
theorem Mw.up {lb b g:Nat}{V W0 w w':World}{s0 s:aI} (h:Mw lb b g V W0 s0 s w) (hb:Below w.heap.size w w'):Mw lb b g V W0 s0 s w':=h.step (h.rd.up hb) (aA b hb) (.refl _)
theorem Mw.new {lb b g g':Nat}{V W0 w w':World}{s0 s:aI} (h:Mw lb b g V W0 s0 s w) (k:w.grownBy w' (some g')) (hl:g<g'):Mw lb b g V W0 s0 s w':=by
 have:=h.lw
 have hV:=h.env.lo
 exact ⟨gf h.rd k (by omega),ud h.env k (by omega),(k.block g (zA h.rs).1 (by simp;omega)).trans h.rs,cW h.gr k (by omega),h.lw,h.sf⟩
theorem Mw.done {lb b g:Nat}{V W0 w:World}{s0 s:aI} (h:Mw lb b g V W0 s0 s w) (d:Fd) {r:Except (Int×Int) (Fd×aI)} (hr:r=.ok (d,s)):PR lb b W0 Fd.val r (.returned d.val) (nA w g (.int .i64 d.dF) (.string d.key) (.string d.ty) (.string d.name) (.int .i64 d.num) (.int .i64 d.oneof))∧(nA w g (.int .i64 d.dF) (.string d.key) (.string d.ty) (.string d.name) (.int .i64 d.num) (.int .i64 d.oneof)).heap[g]?=some (.cells #[.int .i64 d.dF,.string d.key,.string d.ty,.string d.name,.int .i64 d.num,.int .i64 d.oneof] 70 (0,0)):=by
 obtain ⟨r1,r2⟩:=jZ h.rs (.int .i64 d.dF) (.string d.key) (.string d.ty) (.string d.name) (.int .i64 d.num) (.int .i64 d.oneof)
 have:=h.lw
 subst hr
 exact ⟨⟨rfl,gf h.rd r2 (by omega),cW h.gr r2 (by omega)⟩,r1⟩
end Go.Proofs.YtmlphohdcejniaaGreatDoor

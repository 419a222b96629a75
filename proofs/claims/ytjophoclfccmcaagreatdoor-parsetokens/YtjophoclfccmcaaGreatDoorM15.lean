import Derived.Test.YtjophoclfccmcaaGreatDoorM14
set_option maxHeartbeats 4000000
set_option maxRecDepth 100000
namespace Go.Proofs.YtjophoclfccmcaaGreatDoor
open Go.RowKit Go.Shelf
attribute [local go_sem ↓] Go.wp_at_zero Go.wp_at_succ
def ay.begun (s:ay):ay:={ s with bg:=true }
noncomputable def cq (o:Int) (s:ay):Except (Int×Int) (Fd×ay):=gG ⟨1,⟨#[]⟩,⟨#[]⟩,⟨#[]⟩,0,o⟩ s.begun
noncomputable def cU (c:Int) (s:ay):Except (Int×Int) (Fd×ay):=match bz s.begun with
 |.error e=>.error e
 |.ok (_,s1)=>if aJ s1.here 1 ⟨#[103,114,111,117,112]⟩=true then .error (52,s1.here.spot) else gG ⟨c,⟨#[]⟩,⟨#[]⟩,⟨#[]⟩,0,0⟩ s1
noncomputable def eY (s:ay):Except (Int×Int) (ByteArray×ay):=bB bI s.begun
theorem fF {lb b:Nat}{W:World}{s:ay} (h:Rd lb W b s):Calls Tryz.prog 121 #[.pointer (some ⟨b,0,none⟩)] W fun e w=>e=.returned (.tuple #[])∧Rd lb w b s.begun∧W.grownBy w (some b):=Lk h
theorem OD {lb b:Nat}{V W:World}{s:ay} (hv:Env V W b) (h:Rd lb W b s):Calls Tryz.prog 174 #[.pointer (some ⟨b,0,none⟩)] W (PR lb b W Value.string (eY s)):=by
 have hc:=ab (fF h)
 have Hv:=ab hv
 clear h hv
 go_enter Tryz.func174,Tryz.ntmps174
 go_wp2_with fail
 refine (aa hc).mono ?_
 rintro e w1 ⟨rfl,h1,hg⟩
 have HC:=ab (sF ((aa Hv).step hg) h1)
 have Hg:=ab hg
 clear h1 hg hc
 go_wp2_with fail
 refine (aa HC).mono ?_
 intro e w2 hw
 have HW:Hid (PR lb b W Value.string (eY s) e w2):=hw.pre (aa Hg)
 rcases hw.shape with ⟨y,rfl⟩|⟨a,rfl⟩
 ·exact ⟨rfl,aa HW⟩
 ·clear hw HC
  go_wp2
  go_ret
  exact aa HW
theorem sC {lb b:Nat}{V W:World}{s:ay} (o:Int) (hv:Env V W b) (h:Rd lb W b s) (hs:Sm s) (hn:s.ts.length≤16384):Calls Tryz.prog 127 #[.pointer (some ⟨b,0,none⟩),.int .i64 o] W (PR lb b W Fd.val (cq o s)):=by
 have cB:=h.low
 have br:Below W.heap.size W (W.alloc (.cells #[.int .i64 0,.string ⟨#[]⟩,.string ⟨#[]⟩,.string ⟨#[]⟩,.int .i64 0,.int .i64 0] 45)):=(zE _ _).alloc (zD _) _
 have eL:(W.alloc (.cells #[.int .i64 0,.string ⟨#[]⟩,.string ⟨#[]⟩,.string ⟨#[]⟩,.int .i64 0,.int .i64 0] 45)).heap[W.heap.size]?=some (.cells #[.int .i64 0,.string ⟨#[]⟩,.string ⟨#[]⟩,.string ⟨#[]⟩,.int .i64 0,.int .i64 0] 45 (0,0)):=aH _ _
 have hc:=ab (fF (h.up br))
 have tV:=ab (aD b br)
 have Hv:=ab (hv.step (aD b br))
 have tg:=ab eL
 have HS:=ab hs
 clear eL br h hv hs
 have HEq:Hid (cq o s=gG ⟨1,⟨#[]⟩,⟨#[]⟩,⟨#[]⟩,0,o⟩ s.begun):=rfl
 go_enter Tryz.func127,Tryz.ntmps127
 go_wp2_with fail
 refine (aa hc).mono ?_
 rintro e w1 ⟨rfl,h1,l8⟩
 have HC:=ab (tQ ⟨1,⟨#[]⟩,⟨#[]⟩,⟨#[]⟩,0,o⟩ ((aa Hv).step l8) h1 (aa HS) hn)
 have Q2:=ab ((l8.block W.heap.size (zA (aa tg)).1 (by simp;omega)).trans (aa tg))
 have tn:=ab ((aa tV).trans l8)
 unfold Fd.val Fd.arr at HC
 simp only at HC
 clear h1 l8 hc tg tV Hv
 go_wp2_with fail
 refine (aa HC).mono ?_
 intro e w2 hw
 rcases hw.split with ⟨y,hr,rfl,hg⟩|⟨d2,s2,hr,rfl,h2,hg⟩
 ·refine ⟨rfl,?_⟩
  rw[aa HEq,hr]
  exact ⟨rfl,(aa tn).trans hg⟩
 ·obtain ⟨c9,k9,t9,n9,m9,o9⟩:=d2
  unfold Fd.val Fd.arr
  simp only
  have p2:=(hg.block W.heap.size (zA (aa Q2)).1 (by simp;omega)).trans (aa Q2)
  obtain ⟨⟨v0,v1,v2,v3,v4,v5⟩,vf⟩:=bE p2
  have e0:=vf 0
  have e1:=vf 1
  have e2:=vf 2
  have e3:=vf 3
  have e4:=vf 4
  have e5:=vf 5
  obtain ⟨r1,r2⟩:=gZ p2 (.int .i64 c9) (.string k9) (.string t9) (.string n9) (.int .i64 m9) (.int .i64 o9)
  have HE:Hid (PR lb b W Fd.val (cq o s) (.returned (.agg #[.int .i64 c9,.string k9,.string t9,.string n9,.int .i64 m9,.int .i64 o9])) (mv w2 W.heap.size (.int .i64 c9) (.string k9) (.string t9) (.string n9) (.int .i64 m9) (.int .i64 o9))):=by
   show PR lb b W Fd.val (cq o s) _ _
   rw[aa HEq,hr]
   exact ⟨rfl,hJ h2 r2 (by omega),dM ((aa tn).trans hg) r2 (zD _)⟩
  have R1:=ab r1
  unfold mv at HE R1
  clear hw hr hg h2 p2 vf r1 r2 Q2 tn HEq
  go_wp2
  exact bodyPost_ret (results_cell_row rfl _ _ W.heap.size 45 #[.int .i64 c9,.string k9,.string t9,.string n9,.int .i64 m9,.int .i64 o9] (0,0) _ rfl (aa R1) Tryz.underlying45 rfl kp) rfl (aa HE)
theorem rm {lb b:Nat}{V W:World}{s:ay} (c:Int) (hv:Env V W b) (h:Rd lb W b s) (hs:Sm s) (hn:s.ts.length≤16384) (hp:0<s.ts.length):Calls Tryz.prog 151 #[.pointer (some ⟨b,0,none⟩),.int .i64 c] W (PR lb b W Fd.val (cU c s)):=by
 have cB:=h.low
 have br:Below W.heap.size W (W.alloc (.cells #[.int .i64 0,.string ⟨#[]⟩,.string ⟨#[]⟩,.string ⟨#[]⟩,.int .i64 0,.int .i64 0] 45)):=(zE _ _).alloc (zD _) _
 have eL:(W.alloc (.cells #[.int .i64 0,.string ⟨#[]⟩,.string ⟨#[]⟩,.string ⟨#[]⟩,.int .i64 0,.int .i64 0] 45)).heap[W.heap.size]?=some (.cells #[.int .i64 0,.string ⟨#[]⟩,.string ⟨#[]⟩,.string ⟨#[]⟩,.int .i64 0,.int .i64 0] 45 (0,0)):=aH _ _
 have hc:=ab (fF (h.up br))
 have tV:=ab (aD b br)
 have Hv:=ab (hv.step (aD b br))
 have tg:=ab eL
 have HS:=ab hs
 clear eL br h hv hs
 go_enter Tryz.func151,Tryz.ntmps151
 go_wp2_with fail
 refine (aa hc).mono ?_
 rintro e w1 ⟨rfl,h1,l8⟩
 have HN:=ab (dS h1 hp)
 have rZ:=ab l8
 clear h1 l8 hc
 go_wp2_with fail
 refine (aa HN).mono ?_
 intro e w3 hw
 rcases hw.split with ⟨y,hr,rfl,hg⟩|⟨_,s3,hr,rfl,h3,hg⟩
 ·refine ⟨rfl,?_⟩
  unfold cU
  rw[hr]
  exact ⟨rfl,((aa tV).trans (aa rZ)).trans hg⟩
 ·have Vs:jk s s3:=⟨1,by rw[nf hr,List.drop_one];rfl,nd (s:=s.begun) hr⟩
  have Hr:=ab hr
  have H3:=ab h3
  have lv:=((aa Hv).step (aa rZ)).step hg
  have Hv3:=ab lv
  have xM:=ab (((aa tV).trans (aa rZ)).trans hg)
  have SX:=ab (((aa rZ).trans hg).block W.heap.size (zA (aa tg)).1 (by simp;omega) |>.trans (aa tg))
  have Qj:=Vs.len
  have Hsm:=ab (Vs.sm (aa HS))
  clear hw hr hg h3 lv Vs HN rZ tV tg Hv
  go_wp2_with fail
  refine (fC (aa H3)).mono ?_
  rintro e w4 ⟨rfl,fj⟩
  have H4:=ab ((aa H3).up fj)
  have se:=ab ((aa xM).trans (aD b fj))
  have Hv4:=ab ((aa Hv3).step (aD b fj))
  have P5:=ab ((fj.block W.heap.size (zA (aa SX)).1).trans (aa SX))
  have hI:Hid (∀w,Calls Tryz.prog 119 #[s3.here.val,.int .i64 1,.string ⟨#[103,114,111,117,112]⟩] w fun e w'=>e=.returned (.bool (aJ s3.here 1 ⟨#[103,114,111,117,112]⟩))∧Below w.heap.size w w'):=fun w=>sJ w s3.here 1 _
  have PY:Hid (∃p q r,s3.here.val=.agg #[p,q,r]):=⟨_,_,_,rfl⟩
  obtain ⟨p,q,r,Kt⟩:=aa PY
  rw[Kt] at hI ⊢
  clear fj PY Kt H3 xM Hv3 SX
  go_wp2_with fail
  refine (aa hI w4).mono ?_
  rintro e w5 ⟨rfl,lr⟩
  have H5:=ab ((aa H4).up lr)
  have tn:=ab ((aa se).trans (aD b lr))
  have Hv5:=ab ((aa Hv4).step (aD b lr))
  have Q2:=ab ((lr.block W.heap.size (zA (aa P5)).1).trans (aa P5))
  clear lr hI H4 se Hv4 P5
  cases RP:aJ s3.here 1 ⟨#[103,114,111,117,112]⟩ with
  |true =>
   have Hp:=ab RP
   clear RP
   go_wp2_with fail
   refine (kS (aa H5)).mono ?_
   rintro e w6 ⟨rfl,Qt⟩
   refine ⟨rfl,?_⟩
   unfold cU
   rw[aa Hr]
   simp only
   rw[if_pos (aa Hp)]
   exact ⟨rfl,(aa tn).trans (aD b Qt)⟩
  |false =>
   have HEq:Hid (cU c s=gG ⟨c,⟨#[]⟩,⟨#[]⟩,⟨#[]⟩,0,0⟩ s3):=by
    show _=_
    unfold cU
    rw[aa Hr]
    simp only
    rw[if_neg (by rw[RP];simp)]
   have HC:=ab (tQ ⟨c,⟨#[]⟩,⟨#[]⟩,⟨#[]⟩,0,0⟩ (aa Hv5) (aa H5) (aa Hsm) (by omega))
   unfold Fd.val Fd.arr at HC
   simp only at HC
   clear RP
   go_wp2_with fail
   refine (aa HC).mono ?_
   intro e w2 hw
   rcases hw.split with ⟨y,hr,rfl,hg⟩|⟨d2,s2,hr,rfl,h2,hg⟩
   ·refine ⟨rfl,?_⟩
    rw[aa HEq,hr]
    exact ⟨rfl,(aa tn).trans hg⟩
   ·obtain ⟨c9,k9,t9,n9,m9,o9⟩:=d2
    unfold Fd.val Fd.arr
    simp only
    have p2:=(hg.block W.heap.size (zA (aa Q2)).1 (by simp;omega)).trans (aa Q2)
    obtain ⟨⟨v0,v1,v2,v3,v4,v5⟩,vf⟩:=bE p2
    have e0:=vf 0
    have e1:=vf 1
    have e2:=vf 2
    have e3:=vf 3
    have e4:=vf 4
    have e5:=vf 5
    obtain ⟨r1,r2⟩:=gZ p2 (.int .i64 c9) (.string k9) (.string t9) (.string n9) (.int .i64 m9) (.int .i64 o9)
    have HE:Hid (PR lb b W Fd.val (cU c s) (.returned (.agg #[.int .i64 c9,.string k9,.string t9,.string n9,.int .i64 m9,.int .i64 o9])) (mv w2 W.heap.size (.int .i64 c9) (.string k9) (.string t9) (.string n9) (.int .i64 m9) (.int .i64 o9))):=by
     show PR lb b W Fd.val (cU c s) _ _
     rw[aa HEq,hr]
     exact ⟨rfl,hJ h2 r2 (by omega),dM ((aa tn).trans hg) r2 (zD _)⟩
    have R1:=ab r1
    unfold mv at HE R1
    clear hw hr hg h2 p2 vf r1 r2 Q2 tn HEq
    go_wp2
    exact bodyPost_ret (results_cell_row rfl _ _ W.heap.size 45 #[.int .i64 c9,.string k9,.string t9,.string n9,.int .i64 m9,.int .i64 o9] (0,0) _ rfl (aa R1) Tryz.underlying45 rfl kp) rfl (aa HE)
noncomputable def dd (s:ay):Except (Int×Int) ((ByteArray×Int)×ay):=match aR s.begun with
 |.error e=>.error e
 |.ok (x,s1)=>match dY (-2147483648) 2147483647 true s1 with
  |.error e=>.error e
  |.ok (n,s2)=>.ok ((x,n),s2)
def Qv (p:ByteArray×Int):Value:=.agg #[.string p.1,.int .i64 p.2]
theorem UG:(Tryz.prog.info? 73).map (·.size)=some 2:=by kernel_rfl
theorem Cq {w:World}{g:Nat}{a0 a1:Value}{t:TypeId} (h:w.heap[g]?=some (.cells #[a0,a1] t (0,0))):(w.cell? ⟨g,0,none⟩=some a0∧w.cell? ⟨g,1,none⟩=some a1)∧∀j,w.frozen? ⟨g,j,none⟩=false:=by
 refine ⟨⟨?_,?_⟩,fun j=>by simp[World.frozen?,h]⟩<;>rw[cell_of_row _ _ _ _ _ _ h]<;>rfl
def tZ (w:World) (g:Nat) (a0 a1:Value):World:=(w.setCell ⟨g,0,none⟩ a0).setCell ⟨g,1,none⟩ a1
theorem p8 {w:World}{g:Nat}{b0 b1:Value}{t:TypeId} (h:w.heap[g]?=some (.cells #[b0,b1] t (0,0))) (a0 a1:Value):(tZ w g a0 a1).heap[g]?=some (.cells #[a0,a1] t (0,0))∧w.grownBy (tZ w g a0 a1) (some g):=by
 obtain ⟨h0,g0⟩:=aC (j:=0) h a0
 obtain ⟨h1,g1⟩:=aC (j:=1) h0 a1
 exact ⟨h1,g0.trans g1⟩
theorem JE {lb b:Nat}{V W:World}{s:ay} (hv:Env V W b) (h:Rd lb W b s) (hs:Sm s):Calls Tryz.prog 130 #[.pointer (some ⟨b,0,none⟩)] W (PR lb b W Qv (dd s)):=by
 have cB:=h.low
 have br:Below W.heap.size W (W.alloc (.cells #[.string ⟨#[]⟩,.int .i64 0] 73)):=(zE _ _).alloc (zD _) _
 have eL:(W.alloc (.cells #[.string ⟨#[]⟩,.int .i64 0] 73)).heap[W.heap.size]?=some (.cells #[.string ⟨#[]⟩,.int .i64 0] 73 (0,0)):=aH _ _
 have hc:=ab (fF (h.up br))
 have tV:=ab (aD b br)
 have Hv:=ab (hv.step (aD b br))
 have tg:=ab eL
 have HS:=ab hs
 clear eL br h hv hs
 go_enter Tryz.func130,Tryz.ntmps130
 go_wp2_with fail
 refine (aa hc).mono ?_
 rintro e w1 ⟨rfl,h1,l8⟩
 have HN:=ab (kW h1 (aa HS))
 have rZ:=ab l8
 clear h1 l8 hc
 go_wp2_with fail
 refine (aa HN).mono ?_
 intro e w3 hw
 rcases hw.split with ⟨y,hr,rfl,hg⟩|⟨x,s3,hr,rfl,h3,hg⟩
 ·refine ⟨rfl,?_⟩
  unfold dd
  rw[hr]
  exact ⟨rfl,((aa tV).trans (aa rZ)).trans hg⟩
 ·have Hr:=ab hr
  have HC:=ab (rW (-2147483648) 2147483647 true (((aa Hv).step (aa rZ)).step hg) h3)
  have tn:=ab (((aa tV).trans (aa rZ)).trans hg)
  have Q2:=ab (((aa rZ).trans hg).block W.heap.size (zA (aa tg)).1 (by simp;omega) |>.trans (aa tg))
  clear hw hr hg h3 HN rZ tV tg Hv
  go_wp2_with fail
  refine (aa HC).mono ?_
  intro e w2 hw
  rcases hw.split with ⟨y,hr,rfl,hg⟩|⟨n,s2,hr,rfl,h2,hg⟩
  ·refine ⟨rfl,?_⟩
   unfold dd
   rw[aa Hr]
   simp only
   rw[hr]
   exact ⟨rfl,(aa tn).trans hg⟩
  ·have p2:=(hg.block W.heap.size (zA (aa Q2)).1 (by simp;omega)).trans (aa Q2)
   obtain ⟨⟨v0,v1⟩,vf⟩:=Cq p2
   have e0:=vf 0
   have e1:=vf 1
   obtain ⟨r1,r2⟩:=p8 p2 (.string x) (.int .i64 n)
   have HE:Hid (PR lb b W Qv (dd s) (.returned (.agg #[.string x,.int .i64 n])) (tZ w2 W.heap.size (.string x) (.int .i64 n))):=by
    show PR lb b W Qv (dd s) _ _
    unfold dd
    rw[aa Hr]
    simp only
    rw[hr]
    exact ⟨rfl,hJ h2 r2 (by omega),dM ((aa tn).trans hg) r2 (zD _)⟩
   have R1:=ab r1
   unfold tZ at HE R1
   clear hw hr hg h2 p2 vf r1 r2 Q2 tn HC Hr
   unfold sK
   go_wp2
   exact bodyPost_ret (results_cell_row rfl _ _ W.heap.size 73 #[.string x,.int .i64 n] (0,0) _ rfl (aa R1) Tryz.underlying73 rfl UG) rfl (aa HE)
noncomputable def kR (lo hi:Int) (mi:Bool) (s:ay):Except (Int×Int) ((Int×Int)×ay):=match cY lo hi mi s.begun with
 |.error e=>.error e
 |.ok (n,s1)=>match bX 1 ⟨#[116,111]⟩ s1 with
  |.error e=>.error e
  |.ok (false,s2)=>.ok ((n,n),s2)
  |.ok (true,s2)=>match bX 1 ⟨#[109,97,120]⟩ s2 with
   |.error e=>.error e
   |.ok (true,s3)=>.ok ((n,hi),s3)
   |.ok (false,s3)=>match cY n hi mi s3 with
    |.error e=>.error e
    |.ok (m,s4)=>.ok ((n,m),s4)
def JX (p:Int×Int):Value:=.agg #[.int .i64 p.1,.int .i64 p.2]
theorem pZ:(Tryz.prog.info? 98).map (·.size)=some 2:=by kernel_rfl
theorem dE {w:World}{g:Nat}{a0 a1 a2:Value}{t:TypeId} (h:w.heap[g]?=some (.cells #[a0,a1,a2] t (0,0))):(w.cell? ⟨g,0,none⟩=some a0∧w.cell? ⟨g,1,none⟩=some a1∧w.cell? ⟨g,2,none⟩=some a2)∧∀j,w.frozen? ⟨g,j,none⟩=false:=by
 refine ⟨⟨?_,?_,?_⟩,fun j=>by simp[World.frozen?,h]⟩<;>rw[cell_of_row _ _ _ _ _ _ h]<;>rfl
structure Rw (lb b g:Nat) (V W0:World) (lo hi:Int) (mi:Bool) (s:ay) (w:World):Prop where
 rd:Rd lb w b s
 env:Env V w b
 bx:w.heap[g]?=some (.cells #[.int .i64 lo,.int .i64 hi,.bool mi] 175 (0,0))
 rs:w.heap[g+1]?=some (.cells #[.int .i64 0,.int .i64 0] 98 (0,0))
 gr:W0.grownBy w (some b)
 lw:lb≤W0.heap.size∧W0.heap.size≤g∧b<lb
theorem Rw.step {lb b g:Nat}{V W0 w w':World}{lo hi:Int}{mi:Bool}{s s':ay} (h:Rw lb b g V W0 lo hi mi s w) (hr:Rd lb w' b s') (hg:w.grownBy w' (some b)):Rw lb b g V W0 lo hi mi s' w' :=
 ⟨hr,h.env.step hg,(hg.block g (zA h.bx).1 (by have:=h.lw;simp;omega)).trans h.bx,(hg.block (g+1) (zA h.rs).1 (by have:=h.lw;simp;omega)).trans h.rs,h.gr.trans hg,h.lw⟩
theorem Rw.done {lb b g:Nat}{V W0 w:World}{lo hi:Int}{mi:Bool}{s:ay} (h:Rw lb b g V W0 lo hi mi s w) (p:Int×Int) {r:Except (Int×Int) ((Int×Int)×ay)} (hr:r=.ok (p,s)):PR lb b W0 JX r (.returned (.agg #[.int .i64 p.1,.int .i64 p.2])) (tZ w (g+1) (.int .i64 p.1) (.int .i64 p.2))∧(tZ w (g+1) (.int .i64 p.1) (.int .i64 p.2)).heap[g+1]?=some (.cells #[.int .i64 p.1,.int .i64 p.2] 98 (0,0)):=by
 obtain ⟨r1,r2⟩:=p8 h.rs (.int .i64 p.1) (.int .i64 p.2)
 have:=h.lw
 subst hr
 exact ⟨⟨rfl,hJ h.rd r2 (by omega),dM h.gr r2 (by omega)⟩,r1⟩
theorem JW {lb b:Nat}{V W:World}{s:ay} (lo hi:Int) (mi:Bool) (hv:Env V W b) (h:Rd lb W b s):Calls Tryz.prog 172 #[.pointer (some ⟨b,0,none⟩),.agg #[.int .i64 lo,.int .i64 hi,.bool mi]] W (PR lb b W JX (kR lo hi mi s)):=by
 have cB:=h.low
 have br:Below W.heap.size W ((W.alloc (.cells #[.int .i64 lo,.int .i64 hi,.bool mi] 175)).alloc (.cells #[.int .i64 0,.int .i64 0] 98)):=((zE _ _).alloc (zD _) _).alloc (by rw[zJ];omega) _
 have jo:((W.alloc (.cells #[.int .i64 lo,.int .i64 hi,.bool mi] 175)).alloc (.cells #[.int .i64 0,.int .i64 0] 98)).heap[W.heap.size]?=some (.cells #[.int .i64 lo,.int .i64 hi,.bool mi] 175 (0,0)):=(Below.heap_alloc _ _ _ (by rw[zJ];omega)).trans (aH _ _)
 have eL:((W.alloc (.cells #[.int .i64 lo,.int .i64 hi,.bool mi] 175)).alloc (.cells #[.int .i64 0,.int .i64 0] 98)).heap[W.heap.size+1]?=some (.cells #[.int .i64 0,.int .i64 0] 98 (0,0)):=by
  have:=aH (W.alloc (.cells #[.int .i64 lo,.int .i64 hi,.bool mi] 175)) (.cells #[.int .i64 0,.int .i64 0] 98)
  rw[zJ] at this
  exact this
 have hR:Rw lb b W.heap.size V W lo hi mi s ((W.alloc (.cells #[.int .i64 lo,.int .i64 hi,.bool mi] 175)).alloc (.cells #[.int .i64 0,.int .i64 0] 98)):=⟨h.up br,hv.step (aD b br),jo,eL,aD b br,cB.2,zD _,cB.1⟩
 have hc:=ab (fF hR.rd)
 have HR:=ab hR
 clear jo eL br h hv hR
 go_enter Tryz.func172,Tryz.ntmps172
 go_wp2_with fail
 refine (aa hc).mono ?_
 rintro e w1 ⟨rfl,h1,l8⟩
 have LO:=ab ((aa HR).step h1 l8)
 obtain ⟨⟨x0,x1,x2⟩,_⟩:=dE (aa LO).bx
 have HN:=ab (nT lo hi mi (aa LO).env (aa LO).rd)
 clear h1 l8 hc HR
 go_wp2_with fail
 refine (aa HN).mono ?_
 intro e w2 hw
 rcases hw.split with ⟨y,hr,rfl,hg⟩|⟨n,s2,hr,rfl,h2,hg⟩
 ·refine ⟨rfl,?_⟩
  unfold kR
  rw[hr]
  exact ⟨rfl,(aa LO).gr.trans hg⟩
 ·have zR:=ab ((aa LO).step h2 hg)
  have Qw:=ab hr
  clear hw hr hg h2 HN LO x0 x1 x2
  unfold sK
  go_wp2_with fail
  refine (mU (aa zR).rd _).mono ?_
  intro e w3 hw
  rcases hw.split with ⟨y,hr,rfl,hg⟩|⟨f,s3,hr,rfl,h3,hg⟩
  ·refine ⟨rfl,?_⟩
   unfold kR
   rw[aa Qw]
   simp only
   rw[hr]
   exact ⟨rfl,(aa zR).gr.trans hg⟩
  ·have Ya:=ab ((aa zR).step h3 hg)
   have Hr3:=ab hr
   clear hw hr hg h3 zR
   cases f with
   |false =>
    have nK:kR lo hi mi s=.ok ((n,n),s3):=by
     unfold kR
     rw[aa Qw]
     simp only
     rw[aa Hr3]
    obtain ⟨d1,d2⟩:=(aa Ya).done (n,n) nK
    obtain ⟨⟨v0,v1⟩,vf⟩:=Cq (aa Ya).rs
    have e0:=vf 0
    have e1:=vf 1
    have D1:=ab d1
    have D2:=ab d2
    unfold tZ at D1 D2
    clear nK d1 d2 vf
    go_wp2
    exact bodyPost_ret (results_cell_row rfl _ _ (W.heap.size+1) 98 #[.int .i64 n,.int .i64 n] (0,0) _ rfl (aa D2) Tryz.underlying98 rfl pZ) rfl (aa D1)
   |true =>
    go_wp2_with fail
    refine (mU (aa Ya).rd _).mono ?_
    intro e w4 hw
    rcases hw.split with ⟨y,hr,rfl,hg⟩|⟨f,s4,hr,rfl,h4,hg⟩
    ·refine ⟨rfl,?_⟩
     unfold kR
     rw[aa Qw]
     simp only
     rw[aa Hr3]
     simp only
     rw[hr]
     exact ⟨rfl,(aa Ya).gr.trans hg⟩
    ·have zQ:=ab ((aa Ya).step h4 hg)
     have SS:=ab hr
     obtain ⟨⟨x0,x1,x2⟩,xf⟩:=dE (aa zQ).bx
     clear hw hr hg h4 Ya
     cases f with
     |true =>
      have nK:kR lo hi mi s=.ok ((n,hi),s4):=by
       unfold kR
       rw[aa Qw]
       simp only
       rw[aa Hr3]
       simp only
       rw[aa SS]
      obtain ⟨d1,d2⟩:=(aa zQ).done (n,hi) nK
      obtain ⟨⟨v0,v1⟩,vf⟩:=Cq (aa zQ).rs
      have e0:=vf 0
      have e1:=vf 1
      have D1:=ab d1
      have D2:=ab d2
      unfold tZ at D1 D2
      clear nK d1 d2 vf xf
      go_wp2
      exact bodyPost_ret (results_cell_row rfl _ _ (W.heap.size+1) 98 #[.int .i64 n,.int .i64 hi] (0,0) _ rfl (aa D2) Tryz.underlying98 rfl pZ) rfl (aa D1)
     |false =>
      have f0:=xf 0
      obtain ⟨k1,k2⟩:=aC (j:=0) (aa zQ).bx (.int .i64 n)
      simp only[zM] at k1
      have ZH:=(aa zQ).lw
      have hVb:=(aa zQ).env.lo
      have um:Rw lb b W.heap.size V W n hi mi s4 (w4.setCell ⟨W.heap.size,0,none⟩ (.int .i64 n)):=⟨hJ (aa zQ).rd k2 (by omega),xy (aa zQ).env k2 (by omega),k1,(k2.block (W.heap.size+1) (zA (aa zQ).rs).1 (by simp)).trans (aa zQ).rs,dM (aa zQ).gr k2 (zD _),ZH⟩
      obtain ⟨⟨z0,z1,z2⟩,_⟩:=dE um.bx
      have X':=ab um
      have HN:=ab (nT n hi mi um.env um.rd)
      clear k1 k2 um xf
      go_wp2_with fail
      refine (aa HN).mono ?_
      intro e w6 hw
      have nK:∀z,cY n hi mi s4=z→kR lo hi mi s=(match z with|.error e=>.error e|.ok (m,s5)=>.ok ((n,m),s5)):=fun z hz=>by
       unfold kR
       rw[aa Qw]
       simp only
       rw[aa Hr3]
       simp only
       rw[aa SS]
       simp only
       rw[hz]
      rcases hw.split with ⟨y,hr,rfl,hg⟩|⟨m,s6,hr,rfl,h6,hg⟩
      ·refine ⟨rfl,?_⟩
       rw[nK _ hr]
       exact ⟨rfl,(aa X').gr.trans hg⟩
      ·have XK:=(aa X').step h6 hg
       obtain ⟨d1,d2⟩:=XK.done (n,m) (nK _ hr)
       obtain ⟨⟨v0,v1⟩,vf⟩:=Cq XK.rs
       have e0:=vf 0
       have e1:=vf 1
       have D1:=ab d1
       have D2:=ab d2
       unfold tZ at D1 D2
       clear nK d1 d2 vf hw hr hg h6 XK z0 z1 z2 x0 x1 x2 HN X' zQ
       unfold sK
       go_wp2
       exact bodyPost_ret (results_cell_row rfl _ _ (W.heap.size+1) 98 #[.int .i64 n,.int .i64 m] (0,0) _ rfl (aa D2) Tryz.underlying98 rfl pZ) rfl (aa D1)
noncomputable def lu (s:ay):Except (Int×Int) (Fd×ay):=match bz s.begun with
 |.error e=>.error e
 |.ok (_,s1)=>match au ⟨#[60]⟩ s1 with
  |.error e=>.error e
  |.ok (_,s2)=>match ba true s2 with
   |.error e=>.error e
   |.ok (k,s3)=>match au ⟨#[44]⟩ s3 with
    |.error e=>.error e
    |.ok (_,s4)=>match ba true s4 with
     |.error e=>.error e
     |.ok (t,s5)=>match au ⟨#[62]⟩ s5 with
      |.error e=>.error e
      |.ok (_,s6)=>AL ⟨4,k,t,⟨#[]⟩,0,0⟩ s6
noncomputable def de (s:ay):Except (Int×Int) (Fd×ay):=if aJ (s.ahead 1) 4 ⟨#[60]⟩=true then lu s else cq 0 s
theorem bw {x:ByteArray}{s s1:ay}{u:Unit} (h:au x s=.ok (u,s1)):jk s s1:=by
 unfold au at h
 cases ht:bX 4 x s with
 |error e=>rw[ht] at h;cases h
 |ok y =>
  obtain ⟨f,s2⟩:=y
  rw[ht] at h
  cases f with
  |false=>cases h
  |true =>
   simp only[Except.ok.injEq,Prod.mk.injEq] at h
   rw[←h.2]
   exact dQ ht
theorem sw {s s1:ay}{u:Unit} (h:bz s.begun=.ok (u,s1)):jk s s1:=⟨1,by rw[nf h,List.drop_one];rfl,nd (s:=s.begun) h⟩
structure Mw (lb b g:Nat) (V W0:World) (s0 s:ay) (w:World):Prop where
 rd:Rd lb w b s
 env:Env V w b
 rs:w.heap[g]?=some (.cells #[.int .i64 0,.string ⟨#[]⟩,.string ⟨#[]⟩,.string ⟨#[]⟩,.int .i64 0,.int .i64 0] 45 (0,0))
 gr:W0.grownBy w (some b)
 lw:lb≤W0.heap.size∧W0.heap.size=g∧b<lb
 sf:jk s0 s
theorem Mw.step {lb b g:Nat}{V W0 w w':World}{s0 s s':ay} (h:Mw lb b g V W0 s0 s w) (hr:Rd lb w' b s') (hg:w.grownBy w' (some b)) (hs:jk s s'):Mw lb b g V W0 s0 s' w' :=
 ⟨hr,h.env.step hg,(hg.block g (zA h.rs).1 (by have:=h.lw;simp;omega)).trans h.rs,h.gr.trans hg,h.lw,h.sf.trans hs⟩
theorem Mw.up {lb b g:Nat}{V W0 w w':World}{s0 s:ay} (h:Mw lb b g V W0 s0 s w) (hb:Below w.heap.size w w'):Mw lb b g V W0 s0 s w':=h.step (h.rd.up hb) (aD b hb) (.refl _)
theorem Mw.new {lb b g g':Nat}{V W0 w w':World}{s0 s:ay} (h:Mw lb b g V W0 s0 s w) (k:w.grownBy w' (some g')) (hl:g<g'):Mw lb b g V W0 s0 s w':=by
 have:=h.lw
 have hV:=h.env.lo
 exact ⟨hJ h.rd k (by omega),xy h.env k (by omega),(k.block g (zA h.rs).1 (by simp;omega)).trans h.rs,dM h.gr k (by omega),h.lw,h.sf⟩
theorem Mw.done {lb b g:Nat}{V W0 w:World}{s0 s:ay} (h:Mw lb b g V W0 s0 s w) (d:Fd) {r:Except (Int×Int) (Fd×ay)} (hr:r=.ok (d,s)):PR lb b W0 Fd.val r (.returned d.val) (mv w g (.int .i64 d.GN) (.string d.key) (.string d.ty) (.string d.name) (.int .i64 d.num) (.int .i64 d.yl))∧(mv w g (.int .i64 d.GN) (.string d.key) (.string d.ty) (.string d.name) (.int .i64 d.num) (.int .i64 d.yl)).heap[g]?=some (.cells #[.int .i64 d.GN,.string d.key,.string d.ty,.string d.name,.int .i64 d.num,.int .i64 d.yl] 45 (0,0)):=by
 obtain ⟨r1,r2⟩:=gZ h.rs (.int .i64 d.GN) (.string d.key) (.string d.ty) (.string d.name) (.int .i64 d.num) (.int .i64 d.yl)
 have:=h.lw
 subst hr
 exact ⟨⟨rfl,hJ h.rd r2 (by omega),dM h.gr r2 (by omega)⟩,r1⟩
end Go.Proofs.YtjophoclfccmcaaGreatDoor

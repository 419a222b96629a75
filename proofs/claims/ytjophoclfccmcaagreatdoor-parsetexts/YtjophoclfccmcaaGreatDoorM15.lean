import Derived.Test.YtjophoclfccmcaaGreatDoorM14
set_option maxHeartbeats 4000000
set_option maxRecDepth 100000
namespace Go.Proofs.YtjophoclfccmcaaGreatDoor
open Go.RowKit Go.Shelf
attribute [local go_sem ↓] Go.wp_at_zero Go.wp_at_succ
def ax.begun (s:ax):ax:={ s with bg:=true }
noncomputable def cu (o:Int) (s:ax):Except (Int×Int) (Fd×ax):=gK ⟨1,⟨#[]⟩,⟨#[]⟩,⟨#[]⟩,0,o⟩ s.begun
noncomputable def cU (c:Int) (s:ax):Except (Int×Int) (Fd×ax):=match bC s.begun with
 |.error e=>.error e
 |.ok (_,s1)=>if aH s1.here 1 ⟨#[103,114,111,117,112]⟩=true then .error (52,s1.here.spot) else gK ⟨c,⟨#[]⟩,⟨#[]⟩,⟨#[]⟩,0,0⟩ s1
noncomputable def fe (s:ax):Except (Int×Int) (ByteArray×ax):=bE bM s.begun
theorem fK {lb b:Nat}{W:World}{s:ax} (h:Rd lb W b s):Calls Tryz.prog 121 #[.pointer (some ⟨b,0,none⟩)] W fun e w=>e=.returned (.tuple #[])∧Rd lb w b s.begun∧W.grownBy w (some b):=Ll h
theorem Ot {lb b:Nat}{V W:World}{s:ax} (hv:Env V W b) (h:Rd lb W b s):Calls Tryz.prog 174 #[.pointer (some ⟨b,0,none⟩)] W (PR lb b W Value.string (fe s)):=by
 have hc:=ab (fK h)
 have Hv:=ab hv
 clear h hv
 go_enter Tryz.func174,Tryz.ntmps174
 go_wp2_with fail
 refine (aa hc).mono ?_
 rintro e w1 ⟨rfl,h1,hg⟩
 have HC:=ab (sB ((aa Hv).step hg) h1)
 have Hg:=ab hg
 clear h1 hg hc
 go_wp2_with fail
 refine (aa HC).mono ?_
 intro e w2 hw
 have HW:Hid (PR lb b W Value.string (fe s) e w2):=hw.pre (aa Hg)
 rcases hw.shape with ⟨y,rfl⟩|⟨a,rfl⟩
 ·exact ⟨rfl,aa HW⟩
 ·clear hw HC
  go_wp2
  go_ret
  exact aa HW
theorem sw {lb b:Nat}{V W:World}{s:ax} (o:Int) (hv:Env V W b) (h:Rd lb W b s) (hs:Sm s) (hn:s.ts.length≤16384):Calls Tryz.prog 127 #[.pointer (some ⟨b,0,none⟩),.int .i64 o] W (PR lb b W Fd.val (cu o s)):=by
 have cC:=h.low
 have bo:Below W.heap.size W (W.alloc (.cells #[.int .i64 0,.string ⟨#[]⟩,.string ⟨#[]⟩,.string ⟨#[]⟩,.int .i64 0,.int .i64 0] 45)):=(zE _ _).alloc (zD _) _
 have ew:(W.alloc (.cells #[.int .i64 0,.string ⟨#[]⟩,.string ⟨#[]⟩,.string ⟨#[]⟩,.int .i64 0,.int .i64 0] 45)).heap[W.heap.size]?=some (.cells #[.int .i64 0,.string ⟨#[]⟩,.string ⟨#[]⟩,.string ⟨#[]⟩,.int .i64 0,.int .i64 0] 45 (0,0)):=aF _ _
 have hc:=ab (fK (h.up bo))
 have tR:=ab (aD b bo)
 have Hv:=ab (hv.step (aD b bo))
 have tc:=ab ew
 have HS:=ab hs
 clear ew bo h hv hs
 have HEq:Hid (cu o s=gK ⟨1,⟨#[]⟩,⟨#[]⟩,⟨#[]⟩,0,o⟩ s.begun):=rfl
 go_enter Tryz.func127,Tryz.ntmps127
 go_wp2_with fail
 refine (aa hc).mono ?_
 rintro e w1 ⟨rfl,h1,lY⟩
 have HC:=ab (tK ⟨1,⟨#[]⟩,⟨#[]⟩,⟨#[]⟩,0,o⟩ ((aa Hv).step lY) h1 (aa HS) hn)
 have Q2:=ab ((lY.block W.heap.size (zA (aa tc)).1 (by simp;omega)).trans (aa tc))
 have td:=ab ((aa tR).trans lY)
 unfold Fd.val Fd.arr at HC
 simp only at HC
 clear h1 lY hc tc tR Hv
 go_wp2_with fail
 refine (aa HC).mono ?_
 intro e w2 hw
 rcases hw.split with ⟨y,hr,rfl,hg⟩|⟨d2,s2,hr,rfl,h2,hg⟩
 ·refine ⟨rfl,?_⟩
  rw[aa HEq,hr]
  exact ⟨rfl,(aa td).trans hg⟩
 ·obtain ⟨c9,k9,t9,n9,m9,o9⟩:=d2
  unfold Fd.val Fd.arr
  simp only
  have p2:=(hg.block W.heap.size (zA (aa Q2)).1 (by simp;omega)).trans (aa Q2)
  obtain ⟨⟨v0,v1,v2,v3,v4,v5⟩,vf⟩:=bG p2
  have e0:=vf 0
  have e1:=vf 1
  have e2:=vf 2
  have e3:=vf 3
  have e4:=vf 4
  have e5:=vf 5
  obtain ⟨r1,r2⟩:=hU p2 (.int .i64 c9) (.string k9) (.string t9) (.string n9) (.int .i64 m9) (.int .i64 o9)
  have HE:Hid (PR lb b W Fd.val (cu o s) (.returned (.agg #[.int .i64 c9,.string k9,.string t9,.string n9,.int .i64 m9,.int .i64 o9])) (mo w2 W.heap.size (.int .i64 c9) (.string k9) (.string t9) (.string n9) (.int .i64 m9) (.int .i64 o9))):=by
   show PR lb b W Fd.val (cu o s) _ _
   rw[aa HEq,hr]
   exact ⟨rfl,hZ h2 r2 (by omega),dO ((aa td).trans hg) r2 (zD _)⟩
  have R1:=ab r1
  unfold mo at HE R1
  clear hw hr hg h2 p2 vf r1 r2 Q2 td HEq
  go_wp2
  exact bodyPost_ret (results_cell_row rfl _ _ W.heap.size 45 #[.int .i64 c9,.string k9,.string t9,.string n9,.int .i64 m9,.int .i64 o9] (0,0) _ rfl (aa R1) Tryz.underlying45 rfl ko) rfl (aa HE)
theorem rb {lb b:Nat}{V W:World}{s:ax} (c:Int) (hv:Env V W b) (h:Rd lb W b s) (hs:Sm s) (hn:s.ts.length≤16384) (hp:0<s.ts.length):Calls Tryz.prog 151 #[.pointer (some ⟨b,0,none⟩),.int .i64 c] W (PR lb b W Fd.val (cU c s)):=by
 have cC:=h.low
 have bo:Below W.heap.size W (W.alloc (.cells #[.int .i64 0,.string ⟨#[]⟩,.string ⟨#[]⟩,.string ⟨#[]⟩,.int .i64 0,.int .i64 0] 45)):=(zE _ _).alloc (zD _) _
 have ew:(W.alloc (.cells #[.int .i64 0,.string ⟨#[]⟩,.string ⟨#[]⟩,.string ⟨#[]⟩,.int .i64 0,.int .i64 0] 45)).heap[W.heap.size]?=some (.cells #[.int .i64 0,.string ⟨#[]⟩,.string ⟨#[]⟩,.string ⟨#[]⟩,.int .i64 0,.int .i64 0] 45 (0,0)):=aF _ _
 have hc:=ab (fK (h.up bo))
 have tR:=ab (aD b bo)
 have Hv:=ab (hv.step (aD b bo))
 have tc:=ab ew
 have HS:=ab hs
 clear ew bo h hv hs
 go_enter Tryz.func151,Tryz.ntmps151
 go_wp2_with fail
 refine (aa hc).mono ?_
 rintro e w1 ⟨rfl,h1,lY⟩
 have HN:=ab (dX h1 hp)
 have rQ:=ab lY
 clear h1 lY hc
 go_wp2_with fail
 refine (aa HN).mono ?_
 intro e w3 hw
 rcases hw.split with ⟨y,hr,rfl,hg⟩|⟨_,s3,hr,rfl,h3,hg⟩
 ·refine ⟨rfl,?_⟩
  unfold cU
  rw[hr]
  exact ⟨rfl,((aa tR).trans (aa rQ)).trans hg⟩
 ·have Vf:jj s s3:=⟨1,by rw[mZ hr,List.drop_one];rfl,mY (s:=s.begun) hr⟩
  have Hr:=ab hr
  have H3:=ab h3
  have lu:=((aa Hv).step (aa rQ)).step hg
  have Hv3:=ab lu
  have xP:=ab (((aa tR).trans (aa rQ)).trans hg)
  have SQ:=ab (((aa rQ).trans hg).block W.heap.size (zA (aa tc)).1 (by simp;omega) |>.trans (aa tc))
  have P1:=Vf.len
  have Hsm:=ab (Vf.sm (aa HS))
  clear hw hr hg h3 lu Vf HN rQ tR tc Hv
  go_wp2_with fail
  refine (fF (aa H3)).mono ?_
  rintro e w4 ⟨rfl,fC⟩
  have H4:=ab ((aa H3).up fC)
  have rX:=ab ((aa xP).trans (aD b fC))
  have Hv4:=ab ((aa Hv3).step (aD b fC))
  have PI:=ab ((fC.block W.heap.size (zA (aa SQ)).1).trans (aa SQ))
  have hI:Hid (∀w,Calls Tryz.prog 119 #[s3.here.val,.int .i64 1,.string ⟨#[103,114,111,117,112]⟩] w fun e w'=>e=.returned (.bool (aH s3.here 1 ⟨#[103,114,111,117,112]⟩))∧Below w.heap.size w w'):=fun w=>sF w s3.here 1 _
  have PD:Hid (∃p q r,s3.here.val=.agg #[p,q,r]):=⟨_,_,_,rfl⟩
  obtain ⟨p,q,r,Kv⟩:=aa PD
  rw[Kv] at hI ⊢
  clear fC PD Kv H3 xP Hv3 SQ
  go_wp2_with fail
  refine (aa hI w4).mono ?_
  rintro e w5 ⟨rfl,mE⟩
  have H5:=ab ((aa H4).up mE)
  have td:=ab ((aa rX).trans (aD b mE))
  have Hv5:=ab ((aa Hv4).step (aD b mE))
  have Q2:=ab ((mE.block W.heap.size (zA (aa PI)).1).trans (aa PI))
  clear mE hI H4 rX Hv4 PI
  cases RD:aH s3.here 1 ⟨#[103,114,111,117,112]⟩ with
  |true =>
   have Hp:=ab RD
   clear RD
   go_wp2_with fail
   refine (kR (aa H5)).mono ?_
   rintro e w6 ⟨rfl,Qa⟩
   refine ⟨rfl,?_⟩
   unfold cU
   rw[aa Hr]
   simp only
   rw[if_pos (aa Hp)]
   exact ⟨rfl,(aa td).trans (aD b Qa)⟩
  |false =>
   have HEq:Hid (cU c s=gK ⟨c,⟨#[]⟩,⟨#[]⟩,⟨#[]⟩,0,0⟩ s3):=by
    show _=_
    unfold cU
    rw[aa Hr]
    simp only
    rw[if_neg (by rw[RD];simp)]
   have HC:=ab (tK ⟨c,⟨#[]⟩,⟨#[]⟩,⟨#[]⟩,0,0⟩ (aa Hv5) (aa H5) (aa Hsm) (by omega))
   unfold Fd.val Fd.arr at HC
   simp only at HC
   clear RD
   go_wp2_with fail
   refine (aa HC).mono ?_
   intro e w2 hw
   rcases hw.split with ⟨y,hr,rfl,hg⟩|⟨d2,s2,hr,rfl,h2,hg⟩
   ·refine ⟨rfl,?_⟩
    rw[aa HEq,hr]
    exact ⟨rfl,(aa td).trans hg⟩
   ·obtain ⟨c9,k9,t9,n9,m9,o9⟩:=d2
    unfold Fd.val Fd.arr
    simp only
    have p2:=(hg.block W.heap.size (zA (aa Q2)).1 (by simp;omega)).trans (aa Q2)
    obtain ⟨⟨v0,v1,v2,v3,v4,v5⟩,vf⟩:=bG p2
    have e0:=vf 0
    have e1:=vf 1
    have e2:=vf 2
    have e3:=vf 3
    have e4:=vf 4
    have e5:=vf 5
    obtain ⟨r1,r2⟩:=hU p2 (.int .i64 c9) (.string k9) (.string t9) (.string n9) (.int .i64 m9) (.int .i64 o9)
    have HE:Hid (PR lb b W Fd.val (cU c s) (.returned (.agg #[.int .i64 c9,.string k9,.string t9,.string n9,.int .i64 m9,.int .i64 o9])) (mo w2 W.heap.size (.int .i64 c9) (.string k9) (.string t9) (.string n9) (.int .i64 m9) (.int .i64 o9))):=by
     show PR lb b W Fd.val (cU c s) _ _
     rw[aa HEq,hr]
     exact ⟨rfl,hZ h2 r2 (by omega),dO ((aa td).trans hg) r2 (zD _)⟩
    have R1:=ab r1
    unfold mo at HE R1
    clear hw hr hg h2 p2 vf r1 r2 Q2 td HEq
    go_wp2
    exact bodyPost_ret (results_cell_row rfl _ _ W.heap.size 45 #[.int .i64 c9,.string k9,.string t9,.string n9,.int .i64 m9,.int .i64 o9] (0,0) _ rfl (aa R1) Tryz.underlying45 rfl ko) rfl (aa HE)
noncomputable def de (s:ax):Except (Int×Int) ((ByteArray×Int)×ax):=match aQ s.begun with
 |.error e=>.error e
 |.ok (x,s1)=>match eh (-2147483648) 2147483647 true s1 with
  |.error e=>.error e
  |.ok (n,s2)=>.ok ((x,n),s2)
def Qd (p:ByteArray×Int):Value:=.agg #[.string p.1,.int .i64 p.2]
theorem Uv:(Tryz.prog.info? 73).map (·.size)=some 2:=by kernel_rfl
theorem Cw {w:World}{g:Nat}{a0 a1:Value}{t:TypeId} (h:w.heap[g]?=some (.cells #[a0,a1] t (0,0))):(w.cell? ⟨g,0,none⟩=some a0∧w.cell? ⟨g,1,none⟩=some a1)∧∀j,w.frozen? ⟨g,j,none⟩=false:=by
 refine ⟨⟨?_,?_⟩,fun j=>by simp[World.frozen?,h]⟩<;>rw[cell_of_row _ _ _ _ _ _ h]<;>rfl
def tU (w:World) (g:Nat) (a0 a1:Value):World:=(w.setCell ⟨g,0,none⟩ a0).setCell ⟨g,1,none⟩ a1
theorem pU {w:World}{g:Nat}{b0 b1:Value}{t:TypeId} (h:w.heap[g]?=some (.cells #[b0,b1] t (0,0))) (a0 a1:Value):(tU w g a0 a1).heap[g]?=some (.cells #[a0,a1] t (0,0))∧w.grownBy (tU w g a0 a1) (some g):=by
 obtain ⟨h0,g0⟩:=aC (j:=0) h a0
 obtain ⟨h1,g1⟩:=aC (j:=1) h0 a1
 exact ⟨h1,g0.trans g1⟩
theorem JI {lb b:Nat}{V W:World}{s:ax} (hv:Env V W b) (h:Rd lb W b s) (hs:Sm s):Calls Tryz.prog 130 #[.pointer (some ⟨b,0,none⟩)] W (PR lb b W Qd (de s)):=by
 have cC:=h.low
 have bo:Below W.heap.size W (W.alloc (.cells #[.string ⟨#[]⟩,.int .i64 0] 73)):=(zE _ _).alloc (zD _) _
 have ew:(W.alloc (.cells #[.string ⟨#[]⟩,.int .i64 0] 73)).heap[W.heap.size]?=some (.cells #[.string ⟨#[]⟩,.int .i64 0] 73 (0,0)):=aF _ _
 have hc:=ab (fK (h.up bo))
 have tR:=ab (aD b bo)
 have Hv:=ab (hv.step (aD b bo))
 have tc:=ab ew
 have HS:=ab hs
 clear ew bo h hv hs
 go_enter Tryz.func130,Tryz.ntmps130
 go_wp2_with fail
 refine (aa hc).mono ?_
 rintro e w1 ⟨rfl,h1,lY⟩
 have HN:=ab (kU h1 (aa HS))
 have rQ:=ab lY
 clear h1 lY hc
 go_wp2_with fail
 refine (aa HN).mono ?_
 intro e w3 hw
 rcases hw.split with ⟨y,hr,rfl,hg⟩|⟨x,s3,hr,rfl,h3,hg⟩
 ·refine ⟨rfl,?_⟩
  unfold de
  rw[hr]
  exact ⟨rfl,((aa tR).trans (aa rQ)).trans hg⟩
 ·have Hr:=ab hr
  have HC:=ab (rO (-2147483648) 2147483647 true (((aa Hv).step (aa rQ)).step hg) h3)
  have td:=ab (((aa tR).trans (aa rQ)).trans hg)
  have Q2:=ab (((aa rQ).trans hg).block W.heap.size (zA (aa tc)).1 (by simp;omega) |>.trans (aa tc))
  clear hw hr hg h3 HN rQ tR tc Hv
  go_wp2_with fail
  refine (aa HC).mono ?_
  intro e w2 hw
  rcases hw.split with ⟨y,hr,rfl,hg⟩|⟨n,s2,hr,rfl,h2,hg⟩
  ·refine ⟨rfl,?_⟩
   unfold de
   rw[aa Hr]
   simp only
   rw[hr]
   exact ⟨rfl,(aa td).trans hg⟩
  ·have p2:=(hg.block W.heap.size (zA (aa Q2)).1 (by simp;omega)).trans (aa Q2)
   obtain ⟨⟨v0,v1⟩,vf⟩:=Cw p2
   have e0:=vf 0
   have e1:=vf 1
   obtain ⟨r1,r2⟩:=pU p2 (.string x) (.int .i64 n)
   have HE:Hid (PR lb b W Qd (de s) (.returned (.agg #[.string x,.int .i64 n])) (tU w2 W.heap.size (.string x) (.int .i64 n))):=by
    show PR lb b W Qd (de s) _ _
    unfold de
    rw[aa Hr]
    simp only
    rw[hr]
    exact ⟨rfl,hZ h2 r2 (by omega),dO ((aa td).trans hg) r2 (zD _)⟩
   have R1:=ab r1
   unfold tU at HE R1
   clear hw hr hg h2 p2 vf r1 r2 Q2 td HC Hr
   unfold sG
   go_wp2
   exact bodyPost_ret (results_cell_row rfl _ _ W.heap.size 73 #[.string x,.int .i64 n] (0,0) _ rfl (aa R1) Tryz.underlying73 rfl Uv) rfl (aa HE)
noncomputable def kQ (lo hi:Int) (mi:Bool) (s:ax):Except (Int×Int) ((Int×Int)×ax):=match cZ lo hi mi s.begun with
 |.error e=>.error e
 |.ok (n,s1)=>match bX 1 ⟨#[116,111]⟩ s1 with
  |.error e=>.error e
  |.ok (false,s2)=>.ok ((n,n),s2)
  |.ok (true,s2)=>match bX 1 ⟨#[109,97,120]⟩ s2 with
   |.error e=>.error e
   |.ok (true,s3)=>.ok ((n,hi),s3)
   |.ok (false,s3)=>match cZ n hi mi s3 with
    |.error e=>.error e
    |.ok (m,s4)=>.ok ((n,m),s4)
def JZ (p:Int×Int):Value:=.agg #[.int .i64 p.1,.int .i64 p.2]
theorem pT:(Tryz.prog.info? 98).map (·.size)=some 2:=by kernel_rfl
theorem dF {w:World}{g:Nat}{a0 a1 a2:Value}{t:TypeId} (h:w.heap[g]?=some (.cells #[a0,a1,a2] t (0,0))):(w.cell? ⟨g,0,none⟩=some a0∧w.cell? ⟨g,1,none⟩=some a1∧w.cell? ⟨g,2,none⟩=some a2)∧∀j,w.frozen? ⟨g,j,none⟩=false:=by
 refine ⟨⟨?_,?_,?_⟩,fun j=>by simp[World.frozen?,h]⟩<;>rw[cell_of_row _ _ _ _ _ _ h]<;>rfl
structure Rw (lb b g:Nat) (V W0:World) (lo hi:Int) (mi:Bool) (s:ax) (w:World):Prop where
 rd:Rd lb w b s
 env:Env V w b
 bx:w.heap[g]?=some (.cells #[.int .i64 lo,.int .i64 hi,.bool mi] 175 (0,0))
 rs:w.heap[g+1]?=some (.cells #[.int .i64 0,.int .i64 0] 98 (0,0))
 gr:W0.grownBy w (some b)
 lw:lb≤W0.heap.size∧W0.heap.size≤g∧b<lb
theorem Rw.step {lb b g:Nat}{V W0 w w':World}{lo hi:Int}{mi:Bool}{s s':ax} (h:Rw lb b g V W0 lo hi mi s w) (hr:Rd lb w' b s') (hg:w.grownBy w' (some b)):Rw lb b g V W0 lo hi mi s' w' :=
 ⟨hr,h.env.step hg,(hg.block g (zA h.bx).1 (by have:=h.lw;simp;omega)).trans h.bx,(hg.block (g+1) (zA h.rs).1 (by have:=h.lw;simp;omega)).trans h.rs,h.gr.trans hg,h.lw⟩
theorem Rw.done {lb b g:Nat}{V W0 w:World}{lo hi:Int}{mi:Bool}{s:ax} (h:Rw lb b g V W0 lo hi mi s w) (p:Int×Int) {r:Except (Int×Int) ((Int×Int)×ax)} (hr:r=.ok (p,s)):PR lb b W0 JZ r (.returned (.agg #[.int .i64 p.1,.int .i64 p.2])) (tU w (g+1) (.int .i64 p.1) (.int .i64 p.2))∧(tU w (g+1) (.int .i64 p.1) (.int .i64 p.2)).heap[g+1]?=some (.cells #[.int .i64 p.1,.int .i64 p.2] 98 (0,0)):=by
 obtain ⟨r1,r2⟩:=pU h.rs (.int .i64 p.1) (.int .i64 p.2)
 have:=h.lw
 subst hr
 exact ⟨⟨rfl,hZ h.rd r2 (by omega),dO h.gr r2 (by omega)⟩,r1⟩
theorem JY {lb b:Nat}{V W:World}{s:ax} (lo hi:Int) (mi:Bool) (hv:Env V W b) (h:Rd lb W b s):Calls Tryz.prog 172 #[.pointer (some ⟨b,0,none⟩),.agg #[.int .i64 lo,.int .i64 hi,.bool mi]] W (PR lb b W JZ (kQ lo hi mi s)):=by
 have cC:=h.low
 have bo:Below W.heap.size W ((W.alloc (.cells #[.int .i64 lo,.int .i64 hi,.bool mi] 175)).alloc (.cells #[.int .i64 0,.int .i64 0] 98)):=((zE _ _).alloc (zD _) _).alloc (by rw[zJ];omega) _
 have iZ:((W.alloc (.cells #[.int .i64 lo,.int .i64 hi,.bool mi] 175)).alloc (.cells #[.int .i64 0,.int .i64 0] 98)).heap[W.heap.size]?=some (.cells #[.int .i64 lo,.int .i64 hi,.bool mi] 175 (0,0)):=(Below.heap_alloc _ _ _ (by rw[zJ];omega)).trans (aF _ _)
 have ew:((W.alloc (.cells #[.int .i64 lo,.int .i64 hi,.bool mi] 175)).alloc (.cells #[.int .i64 0,.int .i64 0] 98)).heap[W.heap.size+1]?=some (.cells #[.int .i64 0,.int .i64 0] 98 (0,0)):=by
  have:=aF (W.alloc (.cells #[.int .i64 lo,.int .i64 hi,.bool mi] 175)) (.cells #[.int .i64 0,.int .i64 0] 98)
  rw[zJ] at this
  exact this
 have hR:Rw lb b W.heap.size V W lo hi mi s ((W.alloc (.cells #[.int .i64 lo,.int .i64 hi,.bool mi] 175)).alloc (.cells #[.int .i64 0,.int .i64 0] 98)):=⟨h.up bo,hv.step (aD b bo),iZ,ew,aD b bo,cC.2,zD _,cC.1⟩
 have hc:=ab (fK hR.rd)
 have HR:=ab hR
 clear iZ ew bo h hv hR
 go_enter Tryz.func172,Tryz.ntmps172
 go_wp2_with fail
 refine (aa hc).mono ?_
 rintro e w1 ⟨rfl,h1,lY⟩
 have LM:=ab ((aa HR).step h1 lY)
 obtain ⟨⟨x0,x1,x2⟩,_⟩:=dF (aa LM).bx
 have HN:=ab (nR lo hi mi (aa LM).env (aa LM).rd)
 clear h1 lY hc HR
 go_wp2_with fail
 refine (aa HN).mono ?_
 intro e w2 hw
 rcases hw.split with ⟨y,hr,rfl,hg⟩|⟨n,s2,hr,rfl,h2,hg⟩
 ·refine ⟨rfl,?_⟩
  unfold kQ
  rw[hr]
  exact ⟨rfl,(aa LM).gr.trans hg⟩
 ·have qB:=ab ((aa LM).step h2 hg)
  have Qf:=ab hr
  clear hw hr hg h2 HN LM x0 x1 x2
  unfold sG
  go_wp2_with fail
  refine (mQ (aa qB).rd _).mono ?_
  intro e w3 hw
  rcases hw.split with ⟨y,hr,rfl,hg⟩|⟨f,s3,hr,rfl,h3,hg⟩
  ·refine ⟨rfl,?_⟩
   unfold kQ
   rw[aa Qf]
   simp only
   rw[hr]
   exact ⟨rfl,(aa qB).gr.trans hg⟩
  ·have XR:=ab ((aa qB).step h3 hg)
   have Hr3:=ab hr
   clear hw hr hg h3 qB
   cases f with
   |false =>
    have nH:kQ lo hi mi s=.ok ((n,n),s3):=by
     unfold kQ
     rw[aa Qf]
     simp only
     rw[aa Hr3]
    obtain ⟨d1,d2⟩:=(aa XR).done (n,n) nH
    obtain ⟨⟨v0,v1⟩,vf⟩:=Cw (aa XR).rs
    have e0:=vf 0
    have e1:=vf 1
    have D1:=ab d1
    have D2:=ab d2
    unfold tU at D1 D2
    clear nH d1 d2 vf
    go_wp2
    exact bodyPost_ret (results_cell_row rfl _ _ (W.heap.size+1) 98 #[.int .i64 n,.int .i64 n] (0,0) _ rfl (aa D2) Tryz.underlying98 rfl pT) rfl (aa D1)
   |true =>
    go_wp2_with fail
    refine (mQ (aa XR).rd _).mono ?_
    intro e w4 hw
    rcases hw.split with ⟨y,hr,rfl,hg⟩|⟨f,s4,hr,rfl,h4,hg⟩
    ·refine ⟨rfl,?_⟩
     unfold kQ
     rw[aa Qf]
     simp only
     rw[aa Hr3]
     simp only
     rw[hr]
     exact ⟨rfl,(aa XR).gr.trans hg⟩
    ·have zT:=ab ((aa XR).step h4 hg)
     have SM:=ab hr
     obtain ⟨⟨x0,x1,x2⟩,xf⟩:=dF (aa zT).bx
     clear hw hr hg h4 XR
     cases f with
     |true =>
      have nH:kQ lo hi mi s=.ok ((n,hi),s4):=by
       unfold kQ
       rw[aa Qf]
       simp only
       rw[aa Hr3]
       simp only
       rw[aa SM]
      obtain ⟨d1,d2⟩:=(aa zT).done (n,hi) nH
      obtain ⟨⟨v0,v1⟩,vf⟩:=Cw (aa zT).rs
      have e0:=vf 0
      have e1:=vf 1
      have D1:=ab d1
      have D2:=ab d2
      unfold tU at D1 D2
      clear nH d1 d2 vf xf
      go_wp2
      exact bodyPost_ret (results_cell_row rfl _ _ (W.heap.size+1) 98 #[.int .i64 n,.int .i64 hi] (0,0) _ rfl (aa D2) Tryz.underlying98 rfl pT) rfl (aa D1)
     |false =>
      have f0:=xf 0
      obtain ⟨k1,k2⟩:=aC (j:=0) (aa zT).bx (.int .i64 n)
      simp only[zM] at k1
      have Xf:=(aa zT).lw
      have hVb:=(aa zT).env.lo
      have uh:Rw lb b W.heap.size V W n hi mi s4 (w4.setCell ⟨W.heap.size,0,none⟩ (.int .i64 n)):=⟨hZ (aa zT).rd k2 (by omega),xA (aa zT).env k2 (by omega),k1,(k2.block (W.heap.size+1) (zA (aa zT).rs).1 (by simp)).trans (aa zT).rs,dO (aa zT).gr k2 (zD _),Xf⟩
      obtain ⟨⟨z0,z1,z2⟩,_⟩:=dF uh.bx
      have HR5:=ab uh
      have HN:=ab (nR n hi mi uh.env uh.rd)
      clear k1 k2 uh xf
      go_wp2_with fail
      refine (aa HN).mono ?_
      intro e w6 hw
      have nH:∀z,cZ n hi mi s4=z→kQ lo hi mi s=(match z with|.error e=>.error e|.ok (m,s5)=>.ok ((n,m),s5)):=fun z hz=>by
       unfold kQ
       rw[aa Qf]
       simp only
       rw[aa Hr3]
       simp only
       rw[aa SM]
       simp only
       rw[hz]
      rcases hw.split with ⟨y,hr,rfl,hg⟩|⟨m,s6,hr,rfl,h6,hg⟩
      ·refine ⟨rfl,?_⟩
       rw[nH _ hr]
       exact ⟨rfl,(aa HR5).gr.trans hg⟩
      ·have Xs:=(aa HR5).step h6 hg
       obtain ⟨d1,d2⟩:=Xs.done (n,m) (nH _ hr)
       obtain ⟨⟨v0,v1⟩,vf⟩:=Cw Xs.rs
       have e0:=vf 0
       have e1:=vf 1
       have D1:=ab d1
       have D2:=ab d2
       unfold tU at D1 D2
       clear nH d1 d2 vf hw hr hg h6 Xs z0 z1 z2 x0 x1 x2 HN HR5 zT
       unfold sG
       go_wp2
       exact bodyPost_ret (results_cell_row rfl _ _ (W.heap.size+1) 98 #[.int .i64 n,.int .i64 m] (0,0) _ rfl (aa D2) Tryz.underlying98 rfl pT) rfl (aa D1)
noncomputable def lr (s:ax):Except (Int×Int) (Fd×ax):=match bC s.begun with
 |.error e=>.error e
 |.ok (_,s1)=>match au ⟨#[60]⟩ s1 with
  |.error e=>.error e
  |.ok (_,s2)=>match ba true s2 with
   |.error e=>.error e
   |.ok (k,s3)=>match au ⟨#[44]⟩ s3 with
    |.error e=>.error e
    |.ok (_,s4)=>match ba true s4 with
     |.error e=>.error e
     |.ok (t,s5)=>match au ⟨#[62]⟩ s5 with
      |.error e=>.error e
      |.ok (_,s6)=>AQ ⟨4,k,t,⟨#[]⟩,0,0⟩ s6
noncomputable def dg (s:ax):Except (Int×Int) (Fd×ax):=if aH (s.ahead 1) 4 ⟨#[60]⟩=true then lr s else cu 0 s
theorem bB {x:ByteArray}{s s1:ax}{u:Unit} (h:au x s=.ok (u,s1)):jj s s1:=by
 unfold au at h
 cases ht:bX 4 x s with
 |error e=>rw[ht] at h;cases h
 |ok y =>
  obtain ⟨f,s2⟩:=y
  rw[ht] at h
  cases f with
  |false=>cases h
  |true =>
   simp only[Except.ok.injEq,Prod.mk.injEq] at h
   rw[←h.2]
   exact dU ht
theorem sj {s s1:ax}{u:Unit} (h:bC s.begun=.ok (u,s1)):jj s s1:=⟨1,by rw[mZ h,List.drop_one];rfl,mY (s:=s.begun) h⟩
structure Mw (lb b g:Nat) (V W0:World) (s0 s:ax) (w:World):Prop where
 rd:Rd lb w b s
 env:Env V w b
 rs:w.heap[g]?=some (.cells #[.int .i64 0,.string ⟨#[]⟩,.string ⟨#[]⟩,.string ⟨#[]⟩,.int .i64 0,.int .i64 0] 45 (0,0))
 gr:W0.grownBy w (some b)
 lw:lb≤W0.heap.size∧W0.heap.size=g∧b<lb
 sf:jj s0 s
theorem Mw.step {lb b g:Nat}{V W0 w w':World}{s0 s s':ax} (h:Mw lb b g V W0 s0 s w) (hr:Rd lb w' b s') (hg:w.grownBy w' (some b)) (hs:jj s s'):Mw lb b g V W0 s0 s' w' :=
 ⟨hr,h.env.step hg,(hg.block g (zA h.rs).1 (by have:=h.lw;simp;omega)).trans h.rs,h.gr.trans hg,h.lw,h.sf.trans hs⟩
theorem Mw.up {lb b g:Nat}{V W0 w w':World}{s0 s:ax} (h:Mw lb b g V W0 s0 s w) (hb:Below w.heap.size w w'):Mw lb b g V W0 s0 s w':=h.step (h.rd.up hb) (aD b hb) (.refl _)
theorem Mw.new {lb b g g':Nat}{V W0 w w':World}{s0 s:ax} (h:Mw lb b g V W0 s0 s w) (k:w.grownBy w' (some g')) (hl:g<g'):Mw lb b g V W0 s0 s w':=by
 have:=h.lw
 have hV:=h.env.lo
 exact ⟨hZ h.rd k (by omega),xA h.env k (by omega),(k.block g (zA h.rs).1 (by simp;omega)).trans h.rs,dO h.gr k (by omega),h.lw,h.sf⟩
theorem Mw.done {lb b g:Nat}{V W0 w:World}{s0 s:ax} (h:Mw lb b g V W0 s0 s w) (d:Fd) {r:Except (Int×Int) (Fd×ax)} (hr:r=.ok (d,s)):PR lb b W0 Fd.val r (.returned d.val) (mo w g (.int .i64 d.GS) (.string d.key) (.string d.ty) (.string d.name) (.int .i64 d.num) (.int .i64 d.yu))∧(mo w g (.int .i64 d.GS) (.string d.key) (.string d.ty) (.string d.name) (.int .i64 d.num) (.int .i64 d.yu)).heap[g]?=some (.cells #[.int .i64 d.GS,.string d.key,.string d.ty,.string d.name,.int .i64 d.num,.int .i64 d.yu] 45 (0,0)):=by
 obtain ⟨r1,r2⟩:=hU h.rs (.int .i64 d.GS) (.string d.key) (.string d.ty) (.string d.name) (.int .i64 d.num) (.int .i64 d.yu)
 have:=h.lw
 subst hr
 exact ⟨⟨rfl,hZ h.rd r2 (by omega),dO h.gr r2 (by omega)⟩,r1⟩
end Go.Proofs.YtjophoclfccmcaaGreatDoor

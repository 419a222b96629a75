import Derived.Test.YtmlphohdcejniaaGreatDoorM12
set_option maxHeartbeats 4000000
set_option maxRecDepth 100000
namespace Go.Proofs.YtmlphohdcejniaaGreatDoor
open Go.RowKit Go.Shelf
attribute [local go_sem ↓] Go.wp_at_zero Go.wp_at_succ
def aD.begun (s:aD):aD:={ s with bg:=true }
noncomputable def eN (o:Int) (s:aD):Except (Int×Int) (Fd×aD):=fH ⟨1,⟨#[]⟩,⟨#[]⟩,⟨#[]⟩,0,o⟩ s.begun
noncomputable def dh (c:Int) (s:aD):Except (Int×Int) (Fd×aD):=match bE s.begun with
 |.error e=>.error e
 |.ok (_,s1)=>if cZ s1.here 1 ⟨#[103,114,111,117,112]⟩=true then .error (52,s1.here.spot) else fH ⟨c,⟨#[]⟩,⟨#[]⟩,⟨#[]⟩,0,0⟩ s1
noncomputable def kM (s:aD):Except (Int×Int) (ByteArray×aD):=bO ck s.begun
theorem fD {lb b:Nat}{W:World}{s:aD} (h:Rd lb W b s):Calls Tryz.prog 120 #[.pointer (some ⟨b,0,none⟩)] W fun e w=>e=.returned (.tuple #[])∧Rd lb w b s.begun∧W.grownBy w (some b):=Kw h
theorem NG {lb b:Nat}{V W:World}{s:aD} (hv:Env V W b) (h:Rd lb W b s):Calls Tryz.prog 177 #[.pointer (some ⟨b,0,none⟩)] W (PR lb b W Value.string (kM s)):=by
 have hc:=aj (fD h)
 have Hv:=aj hv
 clear h hv
 go_enter Tryz.func177,Tryz.ntmps177
 go_wp2_with fail
 refine (aa hc).mono ?_
 rintro e w1 ⟨rfl,h1,hg⟩
 have HC:=aj (rL ((aa Hv).step hg) h1)
 have Hg:=aj hg
 clear h1 hg hc
 go_wp2_with fail
 refine (aa HC).mono ?_
 intro e w2 hw
 have HW:Hid (PR lb b W Value.string (kM s) e w2):=hw.pre (aa Hg)
 rcases hw.shape with ⟨y,rfl⟩|⟨a,rfl⟩
 ·exact ⟨rfl,aa HW⟩
 ·clear hw HC
  go_wp2
  go_ret
  exact aa HW
theorem rG {lb b:Nat}{V W:World}{s:aD} (o:Int) (hv:Env V W b) (h:Rd lb W b s) (hs:Sm s) (hn:s.ts.length≤16384):Calls Tryz.prog 126 #[.pointer (some ⟨b,0,none⟩),.int .i64 o] W (PR lb b W Fd.val (eN o s)):=by
 have eQ:=h.low
 have bJ:Below W.heap.size W (W.alloc (.cells #[.int .i64 0,.string ⟨#[]⟩,.string ⟨#[]⟩,.string ⟨#[]⟩,.int .i64 0,.int .i64 0] 70)):=(zE _ _).alloc (zD _) _
 have fO:(W.alloc (.cells #[.int .i64 0,.string ⟨#[]⟩,.string ⟨#[]⟩,.string ⟨#[]⟩,.int .i64 0,.int .i64 0] 70)).heap[W.heap.size]?=some (.cells #[.int .i64 0,.string ⟨#[]⟩,.string ⟨#[]⟩,.string ⟨#[]⟩,.int .i64 0,.int .i64 0] 70 (0,0)):=aC _ _
 have hc:=aj (fD (h.up bJ))
 have sZ:=aj (aA b bJ)
 have Hv:=aj (hv.step (aA b bJ))
 have yD:=aj fO
 have HS:=aj hs
 clear fO bJ h hv hs
 have HEq:Hid (eN o s=fH ⟨1,⟨#[]⟩,⟨#[]⟩,⟨#[]⟩,0,o⟩ s.begun):=rfl
 go_enter Tryz.func126,Tryz.ntmps126
 go_wp2_with fail
 refine (aa hc).mono ?_
 rintro e w1 ⟨rfl,h1,kV⟩
 have HC:=aj (sP ⟨1,⟨#[]⟩,⟨#[]⟩,⟨#[]⟩,0,o⟩ ((aa Hv).step kV) h1 (aa HS) hn)
 have Q2:=aj ((kV.block W.heap.size (zA (aa yD)).1 (by simp;omega)).trans (aa yD))
 have AY:=aj ((aa sZ).trans kV)
 unfold Fd.val Fd.arr at HC
 simp only at HC
 clear h1 kV hc yD sZ Hv
 go_wp2_with fail
 refine (aa HC).mono ?_
 intro e w2 hw
 rcases hw.split with ⟨y,hr,rfl,hg⟩|⟨d2,s2,hr,rfl,h2,hg⟩
 ·refine ⟨rfl,?_⟩
  rw[aa HEq,hr]
  exact ⟨rfl,(aa AY).trans hg⟩
 ·obtain ⟨c9,k9,t9,n9,m9,o9⟩:=d2
  unfold Fd.val Fd.arr
  simp only
  have p2:=(hg.block W.heap.size (zA (aa Q2)).1 (by simp;omega)).trans (aa Q2)
  obtain ⟨⟨v0,v1,v2,v3,v4,v5⟩,vf⟩:=iT p2
  have e0:=vf 0
  have e1:=vf 1
  have e2:=vf 2
  have e3:=vf 3
  have e4:=vf 4
  have e5:=vf 5
  obtain ⟨r1,r2⟩:=kD p2 (.int .i64 c9) (.string k9) (.string t9) (.string n9) (.int .i64 m9) (.int .i64 o9)
  have HE:Hid (PR lb b W Fd.val (eN o s) (.returned (.agg #[.int .i64 c9,.string k9,.string t9,.string n9,.int .i64 m9,.int .i64 o9])) (oD w2 W.heap.size (.int .i64 c9) (.string k9) (.string t9) (.string n9) (.int .i64 m9) (.int .i64 o9))):=by
   show PR lb b W Fd.val (eN o s) _ _
   rw[aa HEq,hr]
   exact ⟨rfl,gP h2 r2 (by omega),dp ((aa AY).trans hg) r2 (zD _)⟩
  have R1:=aj r1
  unfold oD at HE R1
  clear hw hr hg h2 p2 vf r1 r2 Q2 AY HEq
  go_wp2
  exact bodyPost_ret (results_cell_row rfl _ _ W.heap.size 70 #[.int .i64 c9,.string k9,.string t9,.string n9,.int .i64 m9,.int .i64 o9] (0,0) _ rfl (aa R1) Tryz.underlying70 rfl nY) rfl (aa HE)
theorem qu {lb b:Nat}{V W:World}{s:aD} (c:Int) (hv:Env V W b) (h:Rd lb W b s) (hs:Sm s) (hn:s.ts.length≤16384) (hp:0<s.ts.length):Calls Tryz.prog 158 #[.pointer (some ⟨b,0,none⟩),.int .i64 c] W (PR lb b W Fd.val (dh c s)):=by
 have eQ:=h.low
 have bJ:Below W.heap.size W (W.alloc (.cells #[.int .i64 0,.string ⟨#[]⟩,.string ⟨#[]⟩,.string ⟨#[]⟩,.int .i64 0,.int .i64 0] 70)):=(zE _ _).alloc (zD _) _
 have fO:(W.alloc (.cells #[.int .i64 0,.string ⟨#[]⟩,.string ⟨#[]⟩,.string ⟨#[]⟩,.int .i64 0,.int .i64 0] 70)).heap[W.heap.size]?=some (.cells #[.int .i64 0,.string ⟨#[]⟩,.string ⟨#[]⟩,.string ⟨#[]⟩,.int .i64 0,.int .i64 0] 70 (0,0)):=aC _ _
 have hc:=aj (fD (h.up bJ))
 have sZ:=aj (aA b bJ)
 have Hv:=aj (hv.step (aA b bJ))
 have yD:=aj fO
 have HS:=aj hs
 clear fO bJ h hv hs
 go_enter Tryz.func158,Tryz.ntmps158
 go_wp2_with fail
 refine (aa hc).mono ?_
 rintro e w1 ⟨rfl,h1,kV⟩
 have HN:=aj (dr h1 hp)
 have qT:=aj kV
 clear h1 kV hc
 go_wp2_with fail
 refine (aa HN).mono ?_
 intro e w3 hw
 rcases hw.split with ⟨y,hr,rfl,hg⟩|⟨_,s3,hr,rfl,h3,hg⟩
 ·refine ⟨rfl,?_⟩
  unfold dh
  rw[hr]
  exact ⟨rfl,((aa sZ).trans (aa qT)).trans hg⟩
 ·have Uw:lL s s3:=⟨1,by rw[oe hr,List.drop_one];rfl,mJ (s:=s.begun) hr⟩
  have Hr:=aj hr
  have H3:=aj h3
  have M3:=((aa Hv).step (aa qT)).step hg
  have Hv3:=aj M3
  have GG:=aj (((aa sZ).trans (aa qT)).trans hg)
  have Z1:=aj (((aa qT).trans hg).block W.heap.size (zA (aa yD)).1 (by simp;omega) |>.trans (aa yD))
  have Ux:=Uw.len
  have Hsm:=aj (Uw.sm (aa HS))
  clear hw hr hg h3 M3 Uw HN qT sZ yD Hv
  go_wp2_with fail
  refine (fu (aa H3)).mono ?_
  rintro e w4 ⟨rfl,eV⟩
  have H4:=aj ((aa H3).up eV)
  have O8:=aj ((aa GG).trans (aA b eV))
  have Hv4:=aj ((aa Hv3).step (aA b eV))
  have HX4:=aj ((eV.block W.heap.size (zA (aa Z1)).1).trans (aa Z1))
  have hI:Hid (∀w,Calls Tryz.prog 118 #[s3.here.val,.int .i64 1,.string ⟨#[103,114,111,117,112]⟩] w fun e w'=>e=.returned (.bool (cZ s3.here 1 ⟨#[103,114,111,117,112]⟩))∧Below w.heap.size w w'):=fun w=>rP w s3.here 1 _
  have OX:Hid (∃p q r,s3.here.val=.agg #[p,q,r]):=⟨_,_,_,rfl⟩
  obtain ⟨p,q,r,EP⟩:=aa OX
  rw[EP] at hI ⊢
  clear eV OX EP H3 GG Hv3 Z1
  go_wp2_with fail
  refine (aa hI w4).mono ?_
  rintro e w5 ⟨rfl,kq⟩
  have H5:=aj ((aa H4).up kq)
  have AY:=aj ((aa O8).trans (aA b kq))
  have Hv5:=aj ((aa Hv4).step (aA b kq))
  have Q2:=aj ((kq.block W.heap.size (zA (aa HX4)).1).trans (aa HX4))
  clear kq hI H4 O8 Hv4 HX4
  cases KM:cZ s3.here 1 ⟨#[103,114,111,117,112]⟩ with
  |true =>
   have Hp:=aj KM
   clear KM
   go_wp2_with fail
   refine (kE (aa H5)).mono ?_
   rintro e w6 ⟨rfl,za⟩
   refine ⟨rfl,?_⟩
   unfold dh
   rw[aa Hr]
   simp only
   rw[if_pos (aa Hp)]
   exact ⟨rfl,(aa AY).trans (aA b za)⟩
  |false =>
   have HEq:Hid (dh c s=fH ⟨c,⟨#[]⟩,⟨#[]⟩,⟨#[]⟩,0,0⟩ s3):=by
    show _=_
    unfold dh
    rw[aa Hr]
    simp only
    rw[if_neg (by rw[KM];simp)]
   have HC:=aj (sP ⟨c,⟨#[]⟩,⟨#[]⟩,⟨#[]⟩,0,0⟩ (aa Hv5) (aa H5) (aa Hsm) (by omega))
   unfold Fd.val Fd.arr at HC
   simp only at HC
   clear KM
   go_wp2_with fail
   refine (aa HC).mono ?_
   intro e w2 hw
   rcases hw.split with ⟨y,hr,rfl,hg⟩|⟨d2,s2,hr,rfl,h2,hg⟩
   ·refine ⟨rfl,?_⟩
    rw[aa HEq,hr]
    exact ⟨rfl,(aa AY).trans hg⟩
   ·obtain ⟨c9,k9,t9,n9,m9,o9⟩:=d2
    unfold Fd.val Fd.arr
    simp only
    have p2:=(hg.block W.heap.size (zA (aa Q2)).1 (by simp;omega)).trans (aa Q2)
    obtain ⟨⟨v0,v1,v2,v3,v4,v5⟩,vf⟩:=iT p2
    have e0:=vf 0
    have e1:=vf 1
    have e2:=vf 2
    have e3:=vf 3
    have e4:=vf 4
    have e5:=vf 5
    obtain ⟨r1,r2⟩:=kD p2 (.int .i64 c9) (.string k9) (.string t9) (.string n9) (.int .i64 m9) (.int .i64 o9)
    have HE:Hid (PR lb b W Fd.val (dh c s) (.returned (.agg #[.int .i64 c9,.string k9,.string t9,.string n9,.int .i64 m9,.int .i64 o9])) (oD w2 W.heap.size (.int .i64 c9) (.string k9) (.string t9) (.string n9) (.int .i64 m9) (.int .i64 o9))):=by
     show PR lb b W Fd.val (dh c s) _ _
     rw[aa HEq,hr]
     exact ⟨rfl,gP h2 r2 (by omega),dp ((aa AY).trans hg) r2 (zD _)⟩
    have R1:=aj r1
    unfold oD at HE R1
    clear hw hr hg h2 p2 vf r1 r2 Q2 AY HEq
    go_wp2
    exact bodyPost_ret (results_cell_row rfl _ _ W.heap.size 70 #[.int .i64 c9,.string k9,.string t9,.string n9,.int .i64 m9,.int .i64 o9] (0,0) _ rfl (aa R1) Tryz.underlying70 rfl nY) rfl (aa HE)
noncomputable def gB (s:aD):Except (Int×Int) ((ByteArray×Int)×aD):=match cy s.begun with
 |.error e=>.error e
 |.ok (x,s1)=>match cG (-2147483648) 2147483647 true s1 with
  |.error e=>.error e
  |.ok (n,s2)=>.ok ((x,n),s2)
def Pz (p:ByteArray×Int):Value:=.agg #[.string p.1,.int .i64 p.2]
theorem TH:(Tryz.prog.info? 94).map (·.size)=some 2:=by kernel_rfl
theorem Cg {w:World}{g:Nat}{a0 a1:Value}{t:TypeId} (h:w.heap[g]?=some (.cells #[a0,a1] t (0,0))):(w.cell? ⟨g,0,none⟩=some a0∧w.cell? ⟨g,1,none⟩=some a1)∧∀j,w.frozen? ⟨g,j,none⟩=false:=by
 refine ⟨⟨?_,?_⟩,fun j=>by simp[World.frozen?,h]⟩<;>rw[cell_of_row _ _ _ _ _ _ h]<;>rfl
def Bc (w:World) (g:Nat) (a0 a1:Value):World:=(w.setCell ⟨g,0,none⟩ a0).setCell ⟨g,1,none⟩ a1
theorem wV {w:World}{g:Nat}{b0 b1:Value}{t:TypeId} (h:w.heap[g]?=some (.cells #[b0,b1] t (0,0))) (a0 a1:Value):(Bc w g a0 a1).heap[g]?=some (.cells #[a0,a1] t (0,0))∧w.grownBy (Bc w g a0 a1) (some g):=by
 obtain ⟨h0,g0⟩:=aJ (j:=0) h a0
 obtain ⟨h1,g1⟩:=aJ (j:=1) h0 a1
 exact ⟨h1,g0.trans g1⟩
theorem I1 {lb b:Nat}{V W:World}{s:aD} (hv:Env V W b) (h:Rd lb W b s) (hs:Sm s):Calls Tryz.prog 129 #[.pointer (some ⟨b,0,none⟩)] W (PR lb b W Pz (gB s)):=by
 have eQ:=h.low
 have bJ:Below W.heap.size W (W.alloc (.cells #[.string ⟨#[]⟩,.int .i64 0] 94)):=(zE _ _).alloc (zD _) _
 have fO:(W.alloc (.cells #[.string ⟨#[]⟩,.int .i64 0] 94)).heap[W.heap.size]?=some (.cells #[.string ⟨#[]⟩,.int .i64 0] 94 (0,0)):=aC _ _
 have hc:=aj (fD (h.up bJ))
 have sZ:=aj (aA b bJ)
 have Hv:=aj (hv.step (aA b bJ))
 have yD:=aj fO
 have HS:=aj hs
 clear fO bJ h hv hs
 go_enter Tryz.func129,Tryz.ntmps129
 go_wp2_with fail
 refine (aa hc).mono ?_
 rintro e w1 ⟨rfl,h1,kV⟩
 have HN:=aj (kG h1 (aa HS))
 have qT:=aj kV
 clear h1 kV hc
 go_wp2_with fail
 refine (aa HN).mono ?_
 intro e w3 hw
 rcases hw.split with ⟨y,hr,rfl,hg⟩|⟨x,s3,hr,rfl,h3,hg⟩
 ·refine ⟨rfl,?_⟩
  unfold gB
  rw[hr]
  exact ⟨rfl,((aa sZ).trans (aa qT)).trans hg⟩
 ·have Hr:=aj hr
  have HC:=aj (qQ (-2147483648) 2147483647 true (((aa Hv).step (aa qT)).step hg) h3)
  have AY:=aj (((aa sZ).trans (aa qT)).trans hg)
  have Q2:=aj (((aa qT).trans hg).block W.heap.size (zA (aa yD)).1 (by simp;omega) |>.trans (aa yD))
  clear hw hr hg h3 HN qT sZ yD Hv
  go_wp2_with fail
  refine (aa HC).mono ?_
  intro e w2 hw
  rcases hw.split with ⟨y,hr,rfl,hg⟩|⟨n,s2,hr,rfl,h2,hg⟩
  ·refine ⟨rfl,?_⟩
   unfold gB
   rw[aa Hr]
   simp only
   rw[hr]
   exact ⟨rfl,(aa AY).trans hg⟩
  ·have p2:=(hg.block W.heap.size (zA (aa Q2)).1 (by simp;omega)).trans (aa Q2)
   obtain ⟨⟨v0,v1⟩,vf⟩:=Cg p2
   have e0:=vf 0
   have e1:=vf 1
   obtain ⟨r1,r2⟩:=wV p2 (.string x) (.int .i64 n)
   have HE:Hid (PR lb b W Pz (gB s) (.returned (.agg #[.string x,.int .i64 n])) (Bc w2 W.heap.size (.string x) (.int .i64 n))):=by
    show PR lb b W Pz (gB s) _ _
    unfold gB
    rw[aa Hr]
    simp only
    rw[hr]
    exact ⟨rfl,gP h2 r2 (by omega),dp ((aa AY).trans hg) r2 (zD _)⟩
   have R1:=aj r1
   unfold Bc at HE R1
   clear hw hr hg h2 p2 vf r1 r2 Q2 AY HC Hr
   unfold rQ
   go_wp2
   exact bodyPost_ret (results_cell_row rfl _ _ W.heap.size 94 #[.string x,.int .i64 n] (0,0) _ rfl (aa R1) Tryz.underlying94 rfl TH) rfl (aa HE)
noncomputable def jd (lo hi:Int) (mi:Bool) (s:aD):Except (Int×Int) ((Int×Int)×aD):=match eh lo hi mi s.begun with
 |.error e=>.error e
 |.ok (n,s1)=>match cx 1 ⟨#[116,111]⟩ s1 with
  |.error e=>.error e
  |.ok (false,s2)=>.ok ((n,n),s2)
  |.ok (true,s2)=>match cx 1 ⟨#[109,97,120]⟩ s2 with
   |.error e=>.error e
   |.ok (true,s3)=>.ok ((n,hi),s3)
   |.ok (false,s3)=>match eh n hi mi s3 with
    |.error e=>.error e
    |.ok (m,s4)=>.ok ((n,m),s4)
def Qj (p:Int×Int):Value:=.agg #[.int .i64 p.1,.int .i64 p.2]
theorem Fg:(Tryz.prog.info? 111).map (·.size)=some 2:=by kernel_rfl
theorem Gq {w:World}{g:Nat}{a0 a1 a2:Value}{t:TypeId} (h:w.heap[g]?=some (.cells #[a0,a1,a2] t (0,0))):(w.cell? ⟨g,0,none⟩=some a0∧w.cell? ⟨g,1,none⟩=some a1∧w.cell? ⟨g,2,none⟩=some a2)∧∀j,w.frozen? ⟨g,j,none⟩=false:=by
 refine ⟨⟨?_,?_,?_⟩,fun j=>by simp[World.frozen?,h]⟩<;>rw[cell_of_row _ _ _ _ _ _ h]<;>rfl
structure Rw (lb b g:Nat) (V W0:World) (lo hi:Int) (mi:Bool) (s:aD) (w:World):Prop where
 rd:Rd lb w b s
 env:Env V w b
 bx:w.heap[g]?=some (.cells #[.int .i64 lo,.int .i64 hi,.bool mi] 196 (0,0))
 rs:w.heap[g+1]?=some (.cells #[.int .i64 0,.int .i64 0] 111 (0,0))
 gr:W0.grownBy w (some b)
 lw:lb≤W0.heap.size∧W0.heap.size≤g∧b<lb
theorem Rw.step {lb b g:Nat}{V W0 w w':World}{lo hi:Int}{mi:Bool}{s s':aD} (h:Rw lb b g V W0 lo hi mi s w) (hr:Rd lb w' b s') (hg:w.grownBy w' (some b)):Rw lb b g V W0 lo hi mi s' w' :=
 ⟨hr,h.env.step hg,(hg.block g (zA h.bx).1 (by have:=h.lw;simp;omega)).trans h.bx,(hg.block (g+1) (zA h.rs).1 (by have:=h.lw;simp;omega)).trans h.rs,h.gr.trans hg,h.lw⟩
theorem Rw.done {lb b g:Nat}{V W0 w:World}{lo hi:Int}{mi:Bool}{s:aD} (h:Rw lb b g V W0 lo hi mi s w) (p:Int×Int) {r:Except (Int×Int) ((Int×Int)×aD)} (hr:r=.ok (p,s)):PR lb b W0 Qj r (.returned (.agg #[.int .i64 p.1,.int .i64 p.2])) (Bc w (g+1) (.int .i64 p.1) (.int .i64 p.2))∧(Bc w (g+1) (.int .i64 p.1) (.int .i64 p.2)).heap[g+1]?=some (.cells #[.int .i64 p.1,.int .i64 p.2] 111 (0,0)):=by
 obtain ⟨r1,r2⟩:=wV h.rs (.int .i64 p.1) (.int .i64 p.2)
 have:=h.lw
 subst hr
 exact ⟨⟨rfl,gP h.rd r2 (by omega),dp h.gr r2 (by omega)⟩,r1⟩
theorem Jr {lb b:Nat}{V W:World}{s:aD} (lo hi:Int) (mi:Bool) (hv:Env V W b) (h:Rd lb W b s):Calls Tryz.prog 175 #[.pointer (some ⟨b,0,none⟩),.agg #[.int .i64 lo,.int .i64 hi,.bool mi]] W (PR lb b W Qj (jd lo hi mi s)):=by
 have eQ:=h.low
 have bJ:Below W.heap.size W ((W.alloc (.cells #[.int .i64 lo,.int .i64 hi,.bool mi] 196)).alloc (.cells #[.int .i64 0,.int .i64 0] 111)):=((zE _ _).alloc (zD _) _).alloc (by rw[zJ];omega) _
 have oq:((W.alloc (.cells #[.int .i64 lo,.int .i64 hi,.bool mi] 196)).alloc (.cells #[.int .i64 0,.int .i64 0] 111)).heap[W.heap.size]?=some (.cells #[.int .i64 lo,.int .i64 hi,.bool mi] 196 (0,0)):=(Below.heap_alloc _ _ _ (by rw[zJ];omega)).trans (aC _ _)
 have fO:((W.alloc (.cells #[.int .i64 lo,.int .i64 hi,.bool mi] 196)).alloc (.cells #[.int .i64 0,.int .i64 0] 111)).heap[W.heap.size+1]?=some (.cells #[.int .i64 0,.int .i64 0] 111 (0,0)):=by
  have:=aC (W.alloc (.cells #[.int .i64 lo,.int .i64 hi,.bool mi] 196)) (.cells #[.int .i64 0,.int .i64 0] 111)
  rw[zJ] at this
  exact this
 have hR:Rw lb b W.heap.size V W lo hi mi s ((W.alloc (.cells #[.int .i64 lo,.int .i64 hi,.bool mi] 196)).alloc (.cells #[.int .i64 0,.int .i64 0] 111)):=⟨h.up bJ,hv.step (aA b bJ),oq,fO,aA b bJ,eQ.2,zD _,eQ.1⟩
 have hc:=aj (fD hR.rd)
 have HR:=aj hR
 clear oq fO bJ h hv hR
 go_enter Tryz.func175,Tryz.ntmps175
 go_wp2_with fail
 refine (aa hc).mono ?_
 rintro e w1 ⟨rfl,h1,kV⟩
 have KT:=aj ((aa HR).step h1 kV)
 obtain ⟨⟨x0,x1,x2⟩,_⟩:=Gq (aa KT).bx
 have HN:=aj (nC lo hi mi (aa KT).env (aa KT).rd)
 clear h1 kV hc HR
 go_wp2_with fail
 refine (aa HN).mono ?_
 intro e w2 hw
 rcases hw.split with ⟨y,hr,rfl,hg⟩|⟨n,s2,hr,rfl,h2,hg⟩
 ·refine ⟨rfl,?_⟩
  unfold jd
  rw[hr]
  exact ⟨rfl,(aa KT).gr.trans hg⟩
 ·have KE:=aj ((aa KT).step h2 hg)
  have PF:=aj hr
  clear hw hr hg h2 HN KT x0 x1 x2
  unfold rQ
  go_wp2_with fail
  refine (mC (aa KE).rd _).mono ?_
  intro e w3 hw
  rcases hw.split with ⟨y,hr,rfl,hg⟩|⟨f,s3,hr,rfl,h3,hg⟩
  ·refine ⟨rfl,?_⟩
   unfold jd
   rw[aa PF]
   simp only
   rw[hr]
   exact ⟨rfl,(aa KE).gr.trans hg⟩
  ·have Tf:=aj ((aa KE).step h3 hg)
   have Hr3:=aj hr
   clear hw hr hg h3 KE
   cases f with
   |false =>
    have nr:jd lo hi mi s=.ok ((n,n),s3):=by
     unfold jd
     rw[aa PF]
     simp only
     rw[aa Hr3]
    obtain ⟨d1,d2⟩:=(aa Tf).done (n,n) nr
    obtain ⟨⟨v0,v1⟩,vf⟩:=Cg (aa Tf).rs
    have e0:=vf 0
    have e1:=vf 1
    have D1:=aj d1
    have D2:=aj d2
    unfold Bc at D1 D2
    clear nr d1 d2 vf
    go_wp2
    exact bodyPost_ret (results_cell_row rfl _ _ (W.heap.size+1) 111 #[.int .i64 n,.int .i64 n] (0,0) _ rfl (aa D2) Tryz.underlying111 rfl Fg) rfl (aa D1)
   |true =>
    go_wp2_with fail
    refine (mC (aa Tf).rd _).mono ?_
    intro e w4 hw
    rcases hw.split with ⟨y,hr,rfl,hg⟩|⟨f,s4,hr,rfl,h4,hg⟩
    ·refine ⟨rfl,?_⟩
     unfold jd
     rw[aa PF]
     simp only
     rw[aa Hr3]
     simp only
     rw[hr]
     exact ⟨rfl,(aa Tf).gr.trans hg⟩
    ·have KS:=aj ((aa Tf).step h4 hg)
     have R9:=aj hr
     obtain ⟨⟨x0,x1,x2⟩,xf⟩:=Gq (aa KS).bx
     clear hw hr hg h4 Tf
     cases f with
     |true =>
      have nr:jd lo hi mi s=.ok ((n,hi),s4):=by
       unfold jd
       rw[aa PF]
       simp only
       rw[aa Hr3]
       simp only
       rw[aa R9]
      obtain ⟨d1,d2⟩:=(aa KS).done (n,hi) nr
      obtain ⟨⟨v0,v1⟩,vf⟩:=Cg (aa KS).rs
      have e0:=vf 0
      have e1:=vf 1
      have D1:=aj d1
      have D2:=aj d2
      unfold Bc at D1 D2
      clear nr d1 d2 vf xf
      go_wp2
      exact bodyPost_ret (results_cell_row rfl _ _ (W.heap.size+1) 111 #[.int .i64 n,.int .i64 hi] (0,0) _ rfl (aa D2) Tryz.underlying111 rfl Fg) rfl (aa D1)
     |false =>
      have f0:=xf 0
      obtain ⟨k1,k2⟩:=aJ (j:=0) (aa KS).bx (.int .i64 n)
      simp only[zM] at k1
      have YJ:=(aa KS).lw
      have hVb:=(aa KS).env.lo
      have Ze:Rw lb b W.heap.size V W n hi mi s4 (w4.setCell ⟨W.heap.size,0,none⟩ (.int .i64 n)):=⟨gP (aa KS).rd k2 (by omega),vL (aa KS).env k2 (by omega),k1,(k2.block (W.heap.size+1) (zA (aa KS).rs).1 (by simp)).trans (aa KS).rs,dp (aa KS).gr k2 (zD _),YJ⟩
      obtain ⟨⟨z0,z1,z2⟩,_⟩:=Gq Ze.bx
      have HR5:=aj Ze
      have HN:=aj (nC n hi mi Ze.env Ze.rd)
      clear k1 k2 Ze xf
      go_wp2_with fail
      refine (aa HN).mono ?_
      intro e w6 hw
      have nr:∀z,eh n hi mi s4=z→jd lo hi mi s=(match z with|.error e=>.error e|.ok (m,s5)=>.ok ((n,m),s5)):=fun z hz=>by
       unfold jd
       rw[aa PF]
       simp only
       rw[aa Hr3]
       simp only
       rw[aa R9]
       simp only
       rw[hz]
      rcases hw.split with ⟨y,hr,rfl,hg⟩|⟨m,s6,hr,rfl,h6,hg⟩
      ·refine ⟨rfl,?_⟩
       rw[nr _ hr]
       exact ⟨rfl,(aa HR5).gr.trans hg⟩
      ·have hR6:=(aa HR5).step h6 hg
       obtain ⟨d1,d2⟩:=hR6.done (n,m) (nr _ hr)
       obtain ⟨⟨v0,v1⟩,vf⟩:=Cg hR6.rs
       have e0:=vf 0
       have e1:=vf 1
       have D1:=aj d1
       have D2:=aj d2
       unfold Bc at D1 D2
       clear nr d1 d2 vf hw hr hg h6 hR6 z0 z1 z2 x0 x1 x2 HN HR5 KS
       unfold rQ
       go_wp2
       exact bodyPost_ret (results_cell_row rfl _ _ (W.heap.size+1) 111 #[.int .i64 n,.int .i64 m] (0,0) _ rfl (aa D2) Tryz.underlying111 rfl Fg) rfl (aa D1)
noncomputable def tj (s:aD):Except (Int×Int) (Fd×aD):=match bE s.begun with
 |.error e=>.error e
 |.ok (_,s1)=>match aV ⟨#[60]⟩ s1 with
  |.error e=>.error e
  |.ok (_,s2)=>match cA true s2 with
   |.error e=>.error e
   |.ok (k,s3)=>match aV ⟨#[44]⟩ s3 with
    |.error e=>.error e
    |.ok (_,s4)=>match cA true s4 with
     |.error e=>.error e
     |.ok (t,s5)=>match aV ⟨#[62]⟩ s5 with
      |.error e=>.error e
      |.ok (_,s6)=>Dx ⟨4,k,t,⟨#[]⟩,0,0⟩ s6
noncomputable def ca (s:aD):Except (Int×Int) (Fd×aD):=if cZ (s.ahead 1) 4 ⟨#[60]⟩=true then tj s else eN 0 s
theorem bR {x:ByteArray}{s s1:aD}{u:Unit} (h:aV x s=.ok (u,s1)):lL s s1:=by
 unfold aV at h
 cases ht:cx 4 x s with
 |error e=>rw[ht] at h;cases h
 |ok y =>
  obtain ⟨f,s2⟩:=y
  rw[ht] at h
  cases f with
  |false=>cases h
  |true =>
   simp only[Except.ok.injEq,Prod.mk.injEq] at h
   rw[←h.2]
   exact dV ht
theorem rC {s s1:aD}{u:Unit} (h:bE s.begun=.ok (u,s1)):lL s s1:=⟨1,by rw[oe h,List.drop_one];rfl,mJ (s:=s.begun) h⟩
structure Mw (lb b g:Nat) (V W0:World) (s0 s:aD) (w:World):Prop where
 rd:Rd lb w b s
 env:Env V w b
 rs:w.heap[g]?=some (.cells #[.int .i64 0,.string ⟨#[]⟩,.string ⟨#[]⟩,.string ⟨#[]⟩,.int .i64 0,.int .i64 0] 70 (0,0))
 gr:W0.grownBy w (some b)
 lw:lb≤W0.heap.size∧W0.heap.size=g∧b<lb
 sf:lL s0 s
theorem Mw.step {lb b g:Nat}{V W0 w w':World}{s0 s s':aD} (h:Mw lb b g V W0 s0 s w) (hr:Rd lb w' b s') (hg:w.grownBy w' (some b)) (hs:lL s s'):Mw lb b g V W0 s0 s' w' :=
 ⟨hr,h.env.step hg,(hg.block g (zA h.rs).1 (by have:=h.lw;simp;omega)).trans h.rs,h.gr.trans hg,h.lw,h.sf.trans hs⟩
theorem Mw.up {lb b g:Nat}{V W0 w w':World}{s0 s:aD} (h:Mw lb b g V W0 s0 s w) (hb:Below w.heap.size w w'):Mw lb b g V W0 s0 s w':=h.step (h.rd.up hb) (aA b hb) (.refl _)
theorem Mw.new {lb b g g':Nat}{V W0 w w':World}{s0 s:aD} (h:Mw lb b g V W0 s0 s w) (k:w.grownBy w' (some g')) (hl:g<g'):Mw lb b g V W0 s0 s w':=by
 have:=h.lw
 have hV:=h.env.lo
 exact ⟨gP h.rd k (by omega),vL h.env k (by omega),(k.block g (zA h.rs).1 (by simp;omega)).trans h.rs,dp h.gr k (by omega),h.lw,h.sf⟩
theorem Mw.done {lb b g:Nat}{V W0 w:World}{s0 s:aD} (h:Mw lb b g V W0 s0 s w) (d:Fd) {r:Except (Int×Int) (Fd×aD)} (hr:r=.ok (d,s)):PR lb b W0 Fd.val r (.returned d.val) (oD w g (.int .i64 d.dQ) (.string d.key) (.string d.ty) (.string d.name) (.int .i64 d.num) (.int .i64 d.oneof))∧(oD w g (.int .i64 d.dQ) (.string d.key) (.string d.ty) (.string d.name) (.int .i64 d.num) (.int .i64 d.oneof)).heap[g]?=some (.cells #[.int .i64 d.dQ,.string d.key,.string d.ty,.string d.name,.int .i64 d.num,.int .i64 d.oneof] 70 (0,0)):=by
 obtain ⟨r1,r2⟩:=kD h.rs (.int .i64 d.dQ) (.string d.key) (.string d.ty) (.string d.name) (.int .i64 d.num) (.int .i64 d.oneof)
 have:=h.lw
 subst hr
 exact ⟨⟨rfl,gP h.rd r2 (by omega),dp h.gr r2 (by omega)⟩,r1⟩
end Go.Proofs.YtmlphohdcejniaaGreatDoor

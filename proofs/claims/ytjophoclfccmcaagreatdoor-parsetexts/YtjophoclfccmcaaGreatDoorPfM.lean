import Derived.Test.YtjophoclfccmcaaGreatDoorM38
set_option maxHeartbeats 4000000
set_option maxRecDepth 100000
namespace Go.Proofs.YtjophoclfccmcaaGreatDoor
open Go.RowKit
attribute [local go_sem ↓] Go.wp_at_zero Go.wp_at_succ
def abd (v:Value):Prop:=∃p:Int×Int,v=JZ p
theorem qP {W w:World}{lo b g:Nat}{R:PX}{b0 b1:Value}{T:TypeId} (hg:W.grownBy w (some b)) (hz:Zr lo w b R) (hl:lo≤W.heap.size) (hW:W.heap.size≤g) (hr:w.heap[g]?=some (.cells #[b0,b1] T (0,0))) (a0 a1:Value) :
  (tU w g a0 a1).heap[g]?=some (.cells #[a0,a1] T (0,0))∧W.grownBy (tU w g a0 a1) (some b)∧Zr lo (tU w g a0 a1) b R:=by
 obtain ⟨h1,h2⟩:=pU hr a0 a1
 exact ⟨h1,cy hg h2 hW,hz.gA h2 (Nat.le_trans hl hW)⟩
theorem Uj {W:World}{lo b:Nat}{R:PX} (h:Zr lo W b R) (en:Bool):Calls Tryz.prog 112 #[.pointer (some ⟨b,0,none⟩),.bool en] W (ZQ lo b W JZ abd (al R (gH en))):=by
 have cC:=h.low
 have lZ:Hid (lp R):=h.2
 have HZ:=ab h
 have HG:Hid (W.grownBy W (some b)):=zI _ _
 clear h
 have Va:b<W.heap.size:=by have:=(aa HG).size;omega
 have rl:W.heap.size≤W.heap.size:=by have:=(aa HG).size;omega
 have aW:=ab (aF (W) (.cells #[.int .i64 0,.int .i64 0] 98))
 replace HZ:=ab ((aa HZ).up ((zE _ _).alloc (zD _) (.cells #[.int .i64 0,.int .i64 0] 98)))
 replace HG:=ab ((aa HG).trans (aM ((zE _ _).alloc (zD _) (.cells #[.int .i64 0,.int .i64 0] 98)) (some b)))
 go_enter Tryz.func112,Tryz.ntmps112
 have qv:=seen (aa aW)
 have qi:=frzn (aa aW)
 go_wp2_with fail
 refine (gm (aa HZ)).mono ?_
 rintro e w1 ⟨⟨kt,pt,tt⟩,rfl,hb,hp⟩
 clear qv qi
 have po:=ab hp
 replace HZ:=ab ((aa HZ).up hb)
 have hg:=aM hb (some b)
 replace aW:=ab (aw hg (aa aW) (by omega))
 replace HG:=ab ((aa HG).trans hg)
 clear hb hp hg
 unfold Tk.val
 have NN:b<w1.heap.size:=by have:=(aa HG).size;omega
 have Ry:W.heap.size≤w1.heap.size:=by have:=(aa HG).size;omega
 have D4:W.heap.size<w1.heap.size:=by have h:=(zA (aa aW)).1;exact h
 replace aW:=ab (bL (aa aW) (.cells #[.int .i64 kt,.int .i64 pt,.string tt] 38))
 have aZ:=ab (aF (w1) (.cells #[.int .i64 kt,.int .i64 pt,.string tt] 38))
 replace HZ:=ab ((aa HZ).up ((zE _ _).alloc (zD _) (.cells #[.int .i64 kt,.int .i64 pt,.string tt] 38)))
 replace HG:=ab ((aa HG).trans (aM ((zE _ _).alloc (zD _) (.cells #[.int .i64 kt,.int .i64 pt,.string tt] 38)) (some b)))
 have qu:=seen (aa aW)
 have qh:=frzn (aa aW)
 have lV:=seen (aa aZ)
 have lR:=frzn (aa aZ)
 go_upto_region 2 with fail
 go_cut [15] (fun v15 wx=>v15=.bool (en&&gd R 4 ⟨#[45]⟩)∧Hid (Below (w1.alloc (.cells #[.int .i64 kt,.int .i64 pt,.string tt] 38)).heap.size (w1.alloc (.cells #[.int .i64 kt,.int .i64 pt,.string tt] 38)) wx))
 case first =>
  cases en with
  |false =>
   go_wp2
   go_meet
   exact ⟨rfl,zE _ _⟩
  |true =>
   go_wp2_with fail
   refine (iw (aa HZ) 4 (by decide) ⟨#[45]⟩).mono ?_
   rintro e w0 ⟨rfl,hb⟩
   have HB:=ab hb
   clear hb
   go_wp2
   go_meet
   exact ⟨rfl,HB⟩
 case rest =>
 obtain ⟨w2,fV⟩:∃x,x=wc:=⟨_,rfl⟩
 subst fV
 obtain ⟨rfl,hb⟩:=hcut
 replace HZ:=ab ((aa HZ).up (aa hb))
 have hg:=aM (aa hb) (some b)
 clear qu qh lV lR
 replace aW:=ab (aw hg (aa aW) (by omega))
 replace aZ:=ab (aw hg (aa aZ) (by omega))
 replace HG:=ab ((aa HG).trans hg)
 clear hg hb
 obtain ⟨q,hq⟩:∃q,(en&&gd R 4 ⟨#[45]⟩)=q:=⟨_,rfl⟩
 rw[hq]
 have jw:=ab hq
 clear hq
 have rI:=seen (aa aW)
 have ry:=frzn (aa aW)
 have oF:=seen (aa aZ)
 have ou:=frzn (aa aZ)
 go_upto_if 15 with fail
 go_cut [] (fun wx=>Hid (World.grownBy (w2) wx (some b)∧Zr lo wx b (aT (al R (ny q pt)))))
 case first =>
  cases q with
  |false =>
   have HH:Hid (World.grownBy (w2) (w2) (some b)∧Zr lo (w2) b (aT (al R (ny false pt)))):=⟨zI _ _,by rw[Pt];exact aa HZ⟩
   go_wp2
   go_meet
   exact HH
  |true =>
   go_wp2_with fail
   refine (eB (aa HZ) ⟨kt,pt,tt⟩).mono ?_
   rintro e w0 ⟨hg,hz,v0,rfl,mA,-⟩
   obtain rfl:=mA
   have HH:Hid (World.grownBy (w2) w0 (some b)∧Zr lo w0 b (aT (al R (ny true pt)))):=⟨hg,hz⟩
   clear hg hz
   go_wp2
   go_meet
   exact HH
 case rest =>
 obtain ⟨w3,fV⟩:∃x,x=wc:=⟨_,rfl⟩
 subst fV
 clear rI ry oF ou
 obtain ⟨hg,hz⟩:=aa hcut
 replace HZ:=ab hz
 replace aW:=ab (aw hg (aa aW) (by omega))
 replace aZ:=ab (aw hg (aa aZ) (by omega))
 replace HG:=ab ((aa HG).trans hg)
 clear hg hz hcut
 have oH:=seen (aa aW)
 have ox:=frzn (aa aW)
 have oE:=seen (aa aZ)
 have ot:=frzn (aa aZ)
 go_wp2_with fail
 refine (CZ (aa HZ) en).mono ?_
 rintro e w4 ⟨hg,hz,v4,rfl,p9,qE⟩
 clear oH ox oE ot
 replace HZ:=ab hz
 replace aW:=ab (aw hg (aa aW) (by omega))
 replace aZ:=ab (aw hg (aa aZ) (by omega))
 replace HG:=ab ((aa HG).trans hg)
 clear hg hz
 obtain ⟨n,⟨ku,pu,tu⟩,rfl⟩:=p9
 have HV2:Hid (∀a s,al (aT (al R (ny q pt))) (cD en)=.ok (a,s)→a=(n,(⟨ku,pu,tu⟩:Tk))):=fun a s e=>BL (qE a s e)
 clear qE
 unfold Tk.val
 have hxu:b<w4.heap.size:=by have:=(aa HG).size;omega
 have hwu:W.heap.size≤w4.heap.size:=by have:=(aa HG).size;omega
 have adk:W.heap.size<w4.heap.size:=by have h:=(zA (aa aW)).1;exact h
 have adi:w1.heap.size<w4.heap.size:=by have h:=(zA (aa aZ)).1;exact h
 replace aW:=ab (bL (aa aW) (.cells #[.int .i64 ku,.int .i64 pu,.string tu] 38))
 replace aZ:=ab (bL (aa aZ) (.cells #[.int .i64 ku,.int .i64 pu,.string tu] 38))
 have gG:=ab (aF (w4) (.cells #[.int .i64 ku,.int .i64 pu,.string tu] 38))
 replace HZ:=ab ((aa HZ).up ((zE _ _).alloc (zD _) (.cells #[.int .i64 ku,.int .i64 pu,.string tu] 38)))
 replace HG:=ab ((aa HG).trans (aM ((zE _ _).alloc (zD _) (.cells #[.int .i64 ku,.int .i64 pu,.string tu] 38)) (some b)))
 obtain ⟨e1,he1⟩:∃q,(pu==pt)=q:=⟨_,rfl⟩
 obtain ⟨e2,he2⟩:∃q,(ku==kt)=q:=⟨_,rfl⟩
 have HE:Hid ((pu==pt&&ku==kt)=(e1&&e2)):=by show _=_;rw[he1,he2]
 have oG:=seen (aa aW)
 have ow:=frzn (aa aW)
 have oD:=seen (aa aZ)
 have oq:=frzn (aa aZ)
 have ab1:=seen (aa gG)
 have abK:=frzn (aa gG)
 go_upto_region 5 with fail
 go_cut [36] (fun v36 wx=>v36=.bool (e1&&e2)∧Hid (Below (w4.alloc (.cells #[.int .i64 ku,.int .i64 pu,.string tu] 38)).heap.size (w4.alloc (.cells #[.int .i64 ku,.int .i64 pu,.string tu] 38)) wx))
 case first =>
  cases e1 with
  |false =>
   go_wp2
   go_meet
   exact ⟨rfl,zE _ _⟩
  |true =>
   go_wp2
   go_meet
   exact ⟨rfl,zE _ _⟩
 case rest =>
 obtain ⟨w5,fV⟩:∃x,x=wc:=⟨_,rfl⟩
 subst fV
 obtain ⟨rfl,hb⟩:=hcut
 replace HZ:=ab ((aa HZ).up (aa hb))
 have hg:=aM (aa hb) (some b)
 clear oG ow oD oq ab1 abK
 replace aW:=ab (aw hg (aa aW) (by omega))
 replace aZ:=ab (aw hg (aa aZ) (by omega))
 replace gG:=ab (aw hg (aa gG) (by omega))
 replace HG:=ab ((aa HG).trans hg)
 clear hg hb
 clear he1 he2
 obtain ⟨e3,he3⟩:∃q,(e1&&e2)=q:=⟨_,rfl⟩
 rw[he3] at HE ⊢
 clear he3
 have qt:=seen (aa aW)
 have qd:=frzn (aa aW)
 have qs:=seen (aa aZ)
 have qc:=frzn (aa aZ)
 have ab0:=seen (aa gG)
 have abJ:=frzn (aa gG)
 go_upto_if 36 with fail
 go_cut [] (fun wx=>Hid (World.grownBy (w5) wx (some b)∧Zr lo wx b (aT (al (aT (al (aT (al R (ny q pt))) (cD en))) (ny e3 pt)))))
 case first =>
  cases e3 with
  |false =>
   have HH:Hid (World.grownBy (w5) (w5) (some b)∧Zr lo (w5) b (aT (al (aT (al (aT (al R (ny q pt))) (cD en))) (ny false pt)))):=⟨zI _ _,by rw[Pt];exact aa HZ⟩
   go_wp2
   go_meet
   exact HH
  |true =>
   go_wp2_with fail
   refine (eB (aa HZ) ⟨kt,pt,tt⟩).mono ?_
   rintro e w0 ⟨hg,hz,v0,rfl,mA,-⟩
   obtain rfl:=mA
   have HH:Hid (World.grownBy (w5) w0 (some b)∧Zr lo w0 b (aT (al (aT (al (aT (al R (ny q pt))) (cD en))) (ny true pt)))):=⟨hg,hz⟩
   clear hg hz
   go_wp2
   go_meet
   exact HH
 case rest =>
 obtain ⟨w6,fV⟩:∃x,x=wc:=⟨_,rfl⟩
 subst fV
 clear qt qd qs qc ab0 abJ
 obtain ⟨hg,hz⟩:=aa hcut
 replace HZ:=ab hz
 replace aW:=ab (aw hg (aa aW) (by omega))
 replace aZ:=ab (aw hg (aa aZ) (by omega))
 replace gG:=ab (aw hg (aa gG) (by omega))
 replace HG:=ab ((aa HG).trans hg)
 clear hg hz hcut
 obtain ⟨a1,a2⟩:=UA (en:=en) (n:=n) (ku:=ku) (pu:=pu) (tu:=tu) (aa lZ) (aa po) (by rw[aa jw];exact aa HV2)
 rw[aa jw,aa HE] at a1
 replace HZ:=aa HZ
 rw[a1] at HZ
 replace HZ:=ab HZ
 have HA:=ab a2
 clear a1 a2 jw HE HV2 lZ po
 have U':b<w6.heap.size:=by have:=(aa HG).size;omega
 have NP:W.heap.size≤w6.heap.size:=by have:=(aa HG).size;omega
 have KB:W.heap.size<w6.heap.size:=by have h:=(zA (aa aW)).1;exact h
 have Gb:w1.heap.size<w6.heap.size:=by have h:=(zA (aa aZ)).1;exact h
 have adg:w4.heap.size<w6.heap.size:=by have h:=(zA (aa gG)).1;exact h
 replace aW:=ab (bL (aa aW) (.cells #[.int .i64 n,.int .i64 n] 98))
 replace aZ:=ab (bL (aa aZ) (.cells #[.int .i64 n,.int .i64 n] 98))
 replace gG:=ab (bL (aa gG) (.cells #[.int .i64 n,.int .i64 n] 98))
 have bH:=ab (aF (w6) (.cells #[.int .i64 n,.int .i64 n] 98))
 replace HZ:=ab ((aa HZ).up ((zE _ _).alloc (zD _) (.cells #[.int .i64 n,.int .i64 n] 98)))
 replace HG:=ab ((aa HG).trans (aM ((zE _ _).alloc (zD _) (.cells #[.int .i64 n,.int .i64 n] 98)) (some b)))
 have GF:=seen (aa aW)
 have Gq:=frzn (aa aW)
 have Eu:=seen (aa aZ)
 have Ed:=frzn (aa aZ)
 have abZ:=seen (aa gG)
 have abI:=frzn (aa gG)
 have GB:=seen (aa bH)
 have Gk:=frzn (aa bH)
 go_wp2_with fail
 refine (iw (aa HZ) 1 (by decide) S7).mono ?_
 rintro e w7 ⟨rfl,hb⟩
 clear GF Gq Eu Ed abZ abI GB Gk
 replace HZ:=ab ((aa HZ).up hb)
 have hg:=aM hb (some b)
 replace aW:=ab (aw hg (aa aW) (by omega))
 replace aZ:=ab (aw hg (aa aZ) (by omega))
 replace gG:=ab (aw hg (aa gG) (by omega))
 replace bH:=ab (aw hg (aa bH) (by omega))
 replace HG:=ab ((aa HG).trans hg)
 clear hb hg
 obtain ⟨q,hq⟩:∃q,gd (aT (al R (jG en))) 1 S7=q:=⟨_,rfl⟩
 rw[hq]
 have jw:=ab hq
 clear hq
 have Zm:W.heap.size≠w6.heap.size:=by omega
 cases q with
 |false =>
  obtain ⟨p2,p3⟩:=Uz (aa HZ).2 (aa HA) (aa jw)
  replace HZ:=aa HZ
  rw[p2] at HZ
  replace HZ:=ab HZ
  have P3:=ab p3
  clear p2 p3 HA jw
  have K7:=seen (aa aW)
  have KT:=frzn (aa aW)
  have Et:=seen (aa aZ)
  have Ec:=frzn (aa aZ)
  have aaj:=seen (aa gG)
  have Z3:=frzn (aa gG)
  have K5:=seen (aa bH)
  have KN:=frzn (aa bH)
  obtain ⟨t1,t2,t3⟩:=qP (aa HG) (aa HZ) cC.2 rl (aa aW) (.int .i64 n) (.int .i64 n)
  have T1:=ab t1
  have T2:=ab t2
  have T3:=ab t3
  clear t1 t2 t3
  go_wp2
  refine bodyPost_ret (results_cell_row rfl _ _ (W.heap.size) 98 #[.int .i64 n,.int .i64 n] (0,0) _ rfl (aa T1) Tryz.underlying98 rfl pT) rfl ?_
  exact ⟨aa T2,aa T3,_,rfl,⟨(n,n),rfl⟩,fun a s e=>by rw[aa P3 a s e];rfl⟩
 |true =>
  obtain ⟨s3,hs3,hto⟩:=fE (aa jw)
  replace HZ:=aa HZ
  rw[hs3] at HZ
  replace HZ:=ab HZ
  have xP:Hid (Gd s3):=(aa HZ).2
  have HS3:=ab hs3
  have HTO:=ab hto
  clear hs3 hto jw
  obtain ⟨i7,ci,fi,bF,hi⟩:=(aa HZ).next (fun s' e=>by cases e;exact eT (aa xP).en (aa HTO) (by decide))
  obtain ⟨g1,z1⟩:=bF (wrap64 (i7+1)) (fun s e=>eN (hi s e))
  have K7:=seen (aa aW)
  have KT:=frzn (aa aW)
  have Et:=seen (aa aZ)
  have Ec:=frzn (aa aZ)
  have aaj:=seen (aa gG)
  have Z3:=frzn (aa gG)
  have K5:=seen (aa bH)
  have KN:=frzn (aa bH)
  replace aW:=ab (aw g1 (aa aW) (by omega))
  replace aZ:=ab (aw g1 (aa aZ) (by omega))
  replace gG:=ab (aw g1 (aa gG) (by omega))
  replace bH:=ab (aw g1 (aa bH) (by omega))
  replace HG:=ab ((aa HG).trans g1)
  replace HZ:=ab z1
  clear g1 z1 bF hi
  have CO:Hid (Zr lo (w7.setCell ⟨b,1,none⟩ (.int .i64 (wrap64 (i7+1)))) b (.ok s3.nx)):=aa HZ
  replace HZ:=CO
  clear CO
  have Sw:=seen (aa aW)
  have Sb:=frzn (aa aW)
  have Su:=seen (aa aZ)
  have R9:=frzn (aa aZ)
  have abY:=seen (aa gG)
  have abH:=frzn (aa gG)
  have Ss:=seen (aa bH)
  have R7:=frzn (aa bH)
  go_wp2_with fail
  refine (iw (aa HZ) 1 (by decide) Kh).mono ?_
  rintro e w8 ⟨rfl,hb⟩
  clear K7 KT Et Ec aaj Z3 K5 KN ci fi Sw Sb Su R9 abY abH Ss R7
  replace HZ:=ab ((aa HZ).up hb)
  have hg:=aM hb (some b)
  replace aW:=ab (aw hg (aa aW) (by omega))
  replace aZ:=ab (aw hg (aa aZ) (by omega))
  replace gG:=ab (aw hg (aa gG) (by omega))
  replace bH:=ab (aw hg (aa bH) (by omega))
  replace HG:=ab ((aa HG).trans hg)
  clear hb hg
  obtain ⟨q,hq⟩:∃q,gd (.ok s3.nx) 1 Kh=q:=⟨_,rfl⟩
  rw[hq]
  have jw:=ab hq
  clear hq
  cases q with
  |true =>
   obtain ⟨i8,ci,fi,bF,hi⟩:=(aa HZ).next (fun s' e=>by cases e;exact eT (aa xP).nx.en (aa jw) (by decide))
   obtain ⟨g1,z1⟩:=bF (wrap64 (i8+1)) (fun s e=>eN (hi s e))
   have Jf:=seen (aa aW)
   have I1:=frzn (aa aW)
   have Jd:=seen (aa aZ)
   have IX:=frzn (aa aZ)
   have TK:=seen (aa gG)
   have TD:=frzn (aa gG)
   have Ja:=seen (aa bH)
   have IV:=frzn (aa bH)
   replace aW:=ab (aw g1 (aa aW) (by omega))
   replace aZ:=ab (aw g1 (aa aZ) (by omega))
   replace gG:=ab (aw g1 (aa gG) (by omega))
   replace bH:=ab (aw g1 (aa bH) (by omega))
   replace HG:=ab ((aa HG).trans g1)
   replace HZ:=ab z1
   clear g1 z1 bF hi
   obtain ⟨p2,p3⟩:=Uy (aa xP) (aa HS3) (aa HA) (aa HTO) (aa jw)
   have CO:Hid (Zr lo (w8.setCell ⟨b,1,none⟩ (.int .i64 (wrap64 (i8+1)))) b (aT (al R (gH en)))):=by show Zr _ _ _ _;rw[←p2];exact aa HZ
   replace HZ:=CO
   have P3:=ab p3
   clear p2 p3 CO HA jw HTO HS3 xP
   cases en with
   |true =>
    obtain ⟨k1,g1⟩:=aC (j:=1) (aa bH) (.int .i64 2147483647)
    have gg:=g1
    replace aW:=ab (aw gg (aa aW) (by omega))
    replace aZ:=ab (aw gg (aa aZ) (by omega))
    replace gG:=ab (aw gg (aa gG) (by omega))
    replace bH:Hid (((w8.setCell ⟨b,1,none⟩ (.int .i64 (wrap64 (i8+1)))).setCell ⟨w6.heap.size,1,none⟩ (.int .i64 2147483647)).heap[w6.heap.size]?=some (.cells #[.int .i64 n,.int .i64 2147483647] 98 (0,0))):=k1
    replace HZ:=ab ((aa HZ).gA gg (by omega))
    replace HG:=ab (cy (aa HG) gg (by omega))
    clear gg k1 g1
    have Je:=seen (aa aW)
    have I0:=frzn (aa aW)
    have Jc:=seen (aa aZ)
    have IW:=frzn (aa aZ)
    have OZ:=seen (aa gG)
    have Ow:=frzn (aa gG)
    have I':=seen (aa bH)
    have IU:=frzn (aa bH)
    obtain ⟨t1,t2,t3⟩:=qP (aa HG) (aa HZ) cC.2 rl (aa aW) (.int .i64 n) (.int .i64 2147483647)
    have T1:=ab t1
    have T2:=ab t2
    have T3:=ab t3
    clear t1 t2 t3
    go_wp2
    refine bodyPost_ret (results_cell_row rfl _ _ (W.heap.size) 98 #[.int .i64 n,.int .i64 2147483647] (0,0) _ rfl (aa T1) Tryz.underlying98 rfl pT) rfl ?_
    exact ⟨aa T2,aa T3,_,rfl,⟨(n,2147483647),rfl⟩,fun a s e=>by rw[aa P3 a s e];rfl⟩
   |false =>
    obtain ⟨k1,g1⟩:=aC (j:=1) (aa bH) (.int .i64 2147483647)
    obtain ⟨k2,g2⟩:=aC (j:=1) k1 (.int .i64 536870911)
    have gg:=(g1.trans g2)
    replace aW:=ab (aw gg (aa aW) (by omega))
    replace aZ:=ab (aw gg (aa aZ) (by omega))
    replace gG:=ab (aw gg (aa gG) (by omega))
    replace bH:Hid ((((w8.setCell ⟨b,1,none⟩ (.int .i64 (wrap64 (i8+1)))).setCell ⟨w6.heap.size,1,none⟩ (.int .i64 2147483647)).setCell ⟨w6.heap.size,1,none⟩ (.int .i64 536870911)).heap[w6.heap.size]?=some (.cells #[.int .i64 n,.int .i64 536870911] 98 (0,0))):=k2
    replace HZ:=ab ((aa HZ).gA gg (by omega))
    replace HG:=ab (cy (aa HG) gg (by omega))
    clear gg k1 g1 k2 g2
    have Je:=seen (aa aW)
    have I0:=frzn (aa aW)
    have Jc:=seen (aa aZ)
    have IW:=frzn (aa aZ)
    have OZ:=seen (aa gG)
    have Ow:=frzn (aa gG)
    have I':=seen (aa bH)
    have IU:=frzn (aa bH)
    obtain ⟨t1,t2,t3⟩:=qP (aa HG) (aa HZ) cC.2 rl (aa aW) (.int .i64 n) (.int .i64 536870911)
    have T1:=ab t1
    have T2:=ab t2
    have T3:=ab t3
    clear t1 t2 t3
    go_wp2
    refine bodyPost_ret (results_cell_row rfl _ _ (W.heap.size) 98 #[.int .i64 n,.int .i64 536870911] (0,0) _ rfl (aa T1) Tryz.underlying98 rfl pT) rfl ?_
    exact ⟨aa T2,aa T3,_,rfl,⟨(n,536870911),rfl⟩,fun a s e=>by rw[aa P3 a s e];rfl⟩
  |false =>
   have Jf:=seen (aa aW)
   have I1:=frzn (aa aW)
   have Jd:=seen (aa aZ)
   have IX:=frzn (aa aZ)
   have TK:=seen (aa gG)
   have TD:=frzn (aa gG)
   have Ja:=seen (aa bH)
   have IV:=frzn (aa bH)
   go_wp2_with fail
   refine (CZ (aa HZ) en).mono ?_
   rintro e w9 ⟨hg,hz,v9,rfl,abn,hv9⟩
   clear Jf I1 Jd IX TK TD Ja IV
   replace HZ:=ab hz
   replace aW:=ab (aw hg (aa aW) (by omega))
   replace aZ:=ab (aw hg (aa aZ) (by omega))
   replace gG:=ab (aw hg (aa gG) (by omega))
   replace bH:=ab (aw hg (aa bH) (by omega))
   replace HG:=ab ((aa HG).trans hg)
   clear hg hz
   obtain ⟨m,⟨kv,pv,tv⟩,rfl⟩:=abn
   have T0:Hid (∀a s,al (.ok s3.nx) (cD en)=.ok (a,s)→a=(m,(⟨kv,pv,tv⟩:Tk))):=fun a s e=>BL (hv9 a s e)
   clear hv9
   unfold Tk.val
   obtain ⟨p2,p3⟩:=Ux (sp:=pv) (aa xP) rfl (aa HS3) (aa HA) (aa HTO) (aa jw) (aa T0)
   have P2:=ab p2
   have P3:=ab p3
   clear p2 p3 HA jw HTO HS3 xP T0
   have Je:=seen (aa aW)
   have I0:=frzn (aa aW)
   have Jc:=seen (aa aZ)
   have IW:=frzn (aa aZ)
   have OZ:=seen (aa gG)
   have Ow:=frzn (aa gG)
   have I':=seen (aa bH)
   have IU:=frzn (aa bH)
   obtain ⟨k1,g1⟩:=aC (j:=1) (aa bH) (.int .i64 m)
   replace aW:=ab (aw g1 (aa aW) (by omega))
   replace aZ:=ab (aw g1 (aa aZ) (by omega))
   replace gG:=ab (aw g1 (aa gG) (by omega))
   replace bH:Hid ((w9.setCell ⟨w6.heap.size,1,none⟩ (.int .i64 m)).heap[w6.heap.size]?=some (.cells #[.int .i64 n,.int .i64 m] 98 (0,0))):=k1
   replace HZ:=ab ((aa HZ).gA g1 (by omega))
   replace HG:=ab (cy (aa HG) g1 (by omega))
   clear k1 g1
   have aap:=seen (aa aW)
   have Z':=frzn (aa aW)
   have aan:=seen (aa aZ)
   have Z8:=frzn (aa aZ)
   have aal:=seen (aa gG)
   have Z6:=frzn (aa gG)
   have aai:=seen (aa bH)
   have Z2:=frzn (aa bH)
   obtain ⟨k0,g0⟩:=aC (j:=0) (aa gG) (.int .i64 kv)
   obtain ⟨k1,g1⟩:=aC (j:=1) k0 (.int .i64 pv)
   obtain ⟨k2,g2⟩:=aC (j:=2) k1 (.string tv)
   have gg:=((g0.trans g1).trans g2)
   replace aW:=ab (aw gg (aa aW) (by omega))
   replace aZ:=ab (aw gg (aa aZ) (by omega))
   replace bH:=ab (aw gg (aa bH) (by omega))
   replace gG:Hid (((((w9.setCell ⟨w6.heap.size,1,none⟩ (.int .i64 m)).setCell ⟨w4.heap.size,0,none⟩ (.int .i64 kv)).setCell ⟨w4.heap.size,1,none⟩ (.int .i64 pv)).setCell ⟨w4.heap.size,2,none⟩ (.string tv)).heap[w4.heap.size]?=some (.cells #[.int .i64 kv,.int .i64 pv,.string tv] 38 (0,0))):=k2
   replace HZ:=ab ((aa HZ).gA gg (by omega))
   replace HG:=ab (cy (aa HG) gg (by omega))
   clear gg k0 g0 k1 g1 k2 g2
   obtain ⟨q2,lF⟩:∃q,decide (m<n)=q:=⟨_,rfl⟩
   have wT:=ab lF
   have aao:=seen (aa aW)
   have Z9:=frzn (aa aW)
   have aam:=seen (aa aZ)
   have Z7:=frzn (aa aZ)
   have aak:=seen (aa gG)
   have Z5:=frzn (aa gG)
   have aah:=seen (aa bH)
   have Z1:=frzn (aa bH)
   have RF:w6.heap.size≠w4.heap.size:=by omega
   have F':w4.heap.size≠w6.heap.size:=by omega
   go_upto_if 78 with fail
   go_cut [] (fun wx=>Hid (World.grownBy ((((w9.setCell ⟨w6.heap.size,1,none⟩ (.int .i64 m)).setCell ⟨w4.heap.size,0,none⟩ (.int .i64 kv)).setCell ⟨w4.heap.size,1,none⟩ (.int .i64 pv)).setCell ⟨w4.heap.size,2,none⟩ (.string tv)) wx (some b)∧Zr lo wx b (aT (al R (gH en)))))
   case first =>
    cases q2 with
    |true =>
     go_wp2_with fail
     refine (gX (aa HZ) 55 pv (by decide)).mono ?_
     rintro e w0 ⟨rfl,hg,hz⟩
     have HH:Hid (World.grownBy ((((w9.setCell ⟨w6.heap.size,1,none⟩ (.int .i64 m)).setCell ⟨w4.heap.size,0,none⟩ (.int .i64 kv)).setCell ⟨w4.heap.size,1,none⟩ (.int .i64 pv)).setCell ⟨w4.heap.size,2,none⟩ (.string tv)) w0 (some b)∧Zr lo w0 b (aT (al R (gH en)))):=⟨hg,by
      rw[←aa P2,if_pos (of_decide_eq_true (aa wT))]
      exact hz⟩
     clear hg hz
     go_wp2
     go_meet
     exact HH
    |false =>
     have HH:Hid (World.grownBy ((((w9.setCell ⟨w6.heap.size,1,none⟩ (.int .i64 m)).setCell ⟨w4.heap.size,0,none⟩ (.int .i64 kv)).setCell ⟨w4.heap.size,1,none⟩ (.int .i64 pv)).setCell ⟨w4.heap.size,2,none⟩ (.string tv)) ((((w9.setCell ⟨w6.heap.size,1,none⟩ (.int .i64 m)).setCell ⟨w4.heap.size,0,none⟩ (.int .i64 kv)).setCell ⟨w4.heap.size,1,none⟩ (.int .i64 pv)).setCell ⟨w4.heap.size,2,none⟩ (.string tv)) (some b)∧Zr lo ((((w9.setCell ⟨w6.heap.size,1,none⟩ (.int .i64 m)).setCell ⟨w4.heap.size,0,none⟩ (.int .i64 kv)).setCell ⟨w4.heap.size,1,none⟩ (.int .i64 pv)).setCell ⟨w4.heap.size,2,none⟩ (.string tv)) b (aT (al R (gH en)))):=⟨zI _ _,by
      rw[←aa P2,if_neg (of_decide_eq_false (aa wT))]
      exact aa HZ⟩
     go_wp2
     go_meet
     exact HH
   case rest =>
   obtain ⟨w10,fV⟩:∃x,x=wc:=⟨_,rfl⟩
   subst fV
   clear Je I0 Jc IW OZ Ow I' IU aap Z' aan Z8 aal Z6 aai Z2 aao Z9 aam Z7 aak Z5 aah Z1
   obtain ⟨hg,hz⟩:=aa hcut
   replace HZ:=ab hz
   replace aW:=ab (aw hg (aa aW) (by omega))
   replace aZ:=ab (aw hg (aa aZ) (by omega))
   replace gG:=ab (aw hg (aa gG) (by omega))
   replace bH:=ab (aw hg (aa bH) (by omega))
   replace HG:=ab ((aa HG).trans hg)
   clear hg hz hcut
   clear lF wT RF F'
   have acN:=seen (aa aW)
   have acJ:=frzn (aa aW)
   have acM:=seen (aa aZ)
   have acI:=frzn (aa aZ)
   have acL:=seen (aa gG)
   have acH:=frzn (aa gG)
   have acK:=seen (aa bH)
   have acG:=frzn (aa bH)
   obtain ⟨t1,t2,t3⟩:=qP (aa HG) (aa HZ) cC.2 rl (aa aW) (.int .i64 n) (.int .i64 m)
   have T1:=ab t1
   have T2:=ab t2
   have T3:=ab t3
   clear t1 t2 t3
   go_wp2
   refine bodyPost_ret (results_cell_row rfl _ _ (W.heap.size) 98 #[.int .i64 n,.int .i64 m] (0,0) _ rfl (aa T1) Tryz.underlying98 rfl pT) rfl ?_
   exact ⟨aa T2,aa T3,_,rfl,⟨(n,m),rfl⟩,fun a s e=>by rw[aa P3 a s e];rfl⟩
end Go.Proofs.YtjophoclfccmcaaGreatDoor

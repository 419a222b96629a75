import Derived.Test.YtjophoclfccmcaaGreatDoorM38
set_option maxHeartbeats 4000000
set_option maxRecDepth 100000
namespace Go.Proofs.YtjophoclfccmcaaGreatDoor
open Go.RowKit
attribute [local go_sem ↓] Go.wp_at_zero Go.wp_at_succ
def abq (v:Value):Prop:=∃p:Int×Int,v=JX p
theorem qV {W w:World}{lo b g:Nat}{R:PX}{b0 b1:Value}{T:TypeId} (hg:W.grownBy w (some b)) (hz:Zr lo w b R) (hl:lo≤W.heap.size) (hW:W.heap.size≤g) (hr:w.heap[g]?=some (.cells #[b0,b1] T (0,0))) (a0 a1:Value) :
  (tZ w g a0 a1).heap[g]?=some (.cells #[a0,a1] T (0,0))∧W.grownBy (tZ w g a0 a1) (some b)∧Zr lo (tZ w g a0 a1) b R:=by
 obtain ⟨h1,h2⟩:=p8 hr a0 a1
 exact ⟨h1,cx hg h2 hW,hz.gu h2 (Nat.le_trans hl hW)⟩
theorem Ut {W:World}{lo b:Nat}{R:PX} (h:Zr lo W b R) (en:Bool):Calls Tryz.prog 112 #[.pointer (some ⟨b,0,none⟩),.bool en] W (ZQ lo b W JX abq (al R (gE en))):=by
 have cB:=h.low
 have l9:Hid (lq R):=h.2
 have HZ:=ab h
 have HG:Hid (W.grownBy W (some b)):=zI _ _
 clear h
 have Vm:b<W.heap.size:=by have:=(aa HG).size;omega
 have AQ:W.heap.size≤W.heap.size:=by have:=(aa HG).size;omega
 have aV:=ab (aH (W) (.cells #[.int .i64 0,.int .i64 0] 98))
 replace HZ:=ab ((aa HZ).up ((zE _ _).alloc (zD _) (.cells #[.int .i64 0,.int .i64 0] 98)))
 replace HG:=ab ((aa HG).trans (aO ((zE _ _).alloc (zD _) (.cells #[.int .i64 0,.int .i64 0] 98)) (some b)))
 go_enter Tryz.func112,Tryz.ntmps112
 have qC:=seen (aa aV)
 have qu:=aS (aa aV)
 go_wp2_with fail
 refine (gf (aa HZ)).mono ?_
 rintro e w1 ⟨⟨kt,pt,tt⟩,rfl,hb,hp⟩
 clear qC qu
 have pB:=ab hp
 replace HZ:=ab ((aa HZ).up hb)
 have hg:=aO hb (some b)
 replace aV:=ab (ax hg (aa aV) (by omega))
 replace HG:=ab ((aa HG).trans hg)
 clear hb hp hg
 unfold Tk.val
 have NZ:b<w1.heap.size:=by have:=(aa HG).size;omega
 have RN:W.heap.size≤w1.heap.size:=by have:=(aa HG).size;omega
 have DV:W.heap.size<w1.heap.size:=by have h:=(zA (aa aV)).1;exact h
 replace aV:=ab (bL (aa aV) (.cells #[.int .i64 kt,.int .i64 pt,.string tt] 38))
 have aZ:=ab (aH (w1) (.cells #[.int .i64 kt,.int .i64 pt,.string tt] 38))
 replace HZ:=ab ((aa HZ).up ((zE _ _).alloc (zD _) (.cells #[.int .i64 kt,.int .i64 pt,.string tt] 38)))
 replace HG:=ab ((aa HG).trans (aO ((zE _ _).alloc (zD _) (.cells #[.int .i64 kt,.int .i64 pt,.string tt] 38)) (some b)))
 have qB:=seen (aa aV)
 have qt:=aS (aa aV)
 have lY:=seen (aa aZ)
 have lU:=aS (aa aZ)
 go_upto_region 2 with fail
 go_cut [15] (fun v15 wx=>v15=.bool (en&&fU R 4 ⟨#[45]⟩)∧Hid (Below (w1.alloc (.cells #[.int .i64 kt,.int .i64 pt,.string tt] 38)).heap.size (w1.alloc (.cells #[.int .i64 kt,.int .i64 pt,.string tt] 38)) wx))
 case first =>
  cases en with
  |false =>
   go_wp2
   go_meet
   exact ⟨rfl,zE _ _⟩
  |true =>
   go_wp2_with fail
   refine (iw (aa HZ) 4 (by decide) ⟨#[45]⟩).mono ?_
   rintro e w0 ⟨rfl,hb⟩
   have HB:=ab hb
   clear hb
   go_wp2
   go_meet
   exact ⟨rfl,HB⟩
 case rest =>
 obtain ⟨w2,fP⟩:∃x,x=wc:=⟨_,rfl⟩
 subst fP
 obtain ⟨rfl,hb⟩:=hcut
 replace HZ:=ab ((aa HZ).up (aa hb))
 have hg:=aO (aa hb) (some b)
 clear qB qt lY lU
 replace aV:=ab (ax hg (aa aV) (by omega))
 replace aZ:=ab (ax hg (aa aZ) (by omega))
 replace HG:=ab ((aa HG).trans hg)
 clear hg hb
 obtain ⟨q,hq⟩:∃q,(en&&fU R 4 ⟨#[45]⟩)=q:=⟨_,rfl⟩
 rw[hq]
 have jx:=ab hq
 clear hq
 have rQ:=seen (aa aV)
 have rG:=aS (aa aV)
 have oK:=seen (aa aZ)
 have oA:=aS (aa aZ)
 go_upto_if 15 with fail
 go_cut [] (fun wx=>Hid (World.grownBy (w2) wx (some b)∧Zr lo wx b (aT (al R (nA q pt)))))
 case first =>
  cases q with
  |false =>
   have HH:Hid (World.grownBy (w2) (w2) (some b)∧Zr lo (w2) b (aT (al R (nA false pt)))):=⟨zI _ _,by rw[PL];exact aa HZ⟩
   go_wp2
   go_meet
   exact HH
  |true =>
   go_wp2_with fail
   refine (eu (aa HZ) ⟨kt,pt,tt⟩).mono ?_
   rintro e w0 ⟨hg,hz,v0,rfl,mD,-⟩
   obtain rfl:=mD
   have HH:Hid (World.grownBy (w2) w0 (some b)∧Zr lo w0 b (aT (al R (nA true pt)))):=⟨hg,hz⟩
   clear hg hz
   go_wp2
   go_meet
   exact HH
 case rest =>
 obtain ⟨w3,fP⟩:∃x,x=wc:=⟨_,rfl⟩
 subst fP
 clear rQ rG oK oA
 obtain ⟨hg,hz⟩:=aa hcut
 replace HZ:=ab hz
 replace aV:=ab (ax hg (aa aV) (by omega))
 replace aZ:=ab (ax hg (aa aZ) (by omega))
 replace HG:=ab ((aa HG).trans hg)
 clear hg hz hcut
 have oM:=seen (aa aV)
 have oD:=aS (aa aV)
 have oJ:=seen (aa aZ)
 have oy:=aS (aa aZ)
 go_wp2_with fail
 refine (CS (aa HZ) en).mono ?_
 rintro e w4 ⟨hg,hz,v4,rfl,qi,qI⟩
 clear oM oD oJ oy
 replace HZ:=ab hz
 replace aV:=ab (ax hg (aa aV) (by omega))
 replace aZ:=ab (ax hg (aa aZ) (by omega))
 replace HG:=ab ((aa HG).trans hg)
 clear hg hz
 obtain ⟨n,⟨ku,pu,tu⟩,rfl⟩:=qi
 have HV2:Hid (∀a s,al (aT (al R (nA q pt))) (cE en)=.ok (a,s)→a=(n,(⟨ku,pu,tu⟩:Tk))):=fun a s e=>BD (qI a s e)
 clear qI
 unfold Tk.val
 have hxu:b<w4.heap.size:=by have:=(aa HG).size;omega
 have hwu:W.heap.size≤w4.heap.size:=by have:=(aa HG).size;omega
 have adC:W.heap.size<w4.heap.size:=by have h:=(zA (aa aV)).1;exact h
 have adA:w1.heap.size<w4.heap.size:=by have h:=(zA (aa aZ)).1;exact h
 replace aV:=ab (bL (aa aV) (.cells #[.int .i64 ku,.int .i64 pu,.string tu] 38))
 replace aZ:=ab (bL (aa aZ) (.cells #[.int .i64 ku,.int .i64 pu,.string tu] 38))
 have gD:=ab (aH (w4) (.cells #[.int .i64 ku,.int .i64 pu,.string tu] 38))
 replace HZ:=ab ((aa HZ).up ((zE _ _).alloc (zD _) (.cells #[.int .i64 ku,.int .i64 pu,.string tu] 38)))
 replace HG:=ab ((aa HG).trans (aO ((zE _ _).alloc (zD _) (.cells #[.int .i64 ku,.int .i64 pu,.string tu] 38)) (some b)))
 obtain ⟨e1,he1⟩:∃q,(pu==pt)=q:=⟨_,rfl⟩
 obtain ⟨e2,he2⟩:∃q,(ku==kt)=q:=⟨_,rfl⟩
 have HE:Hid ((pu==pt&&ku==kt)=(e1&&e2)):=by show _=_;rw[he1,he2]
 have oL:=seen (aa aV)
 have oC:=aS (aa aV)
 have oI:=seen (aa aZ)
 have ox:=aS (aa aZ)
 have ack:=seen (aa gD)
 have ab1:=aS (aa gD)
 go_upto_region 5 with fail
 go_cut [36] (fun v36 wx=>v36=.bool (e1&&e2)∧Hid (Below (w4.alloc (.cells #[.int .i64 ku,.int .i64 pu,.string tu] 38)).heap.size (w4.alloc (.cells #[.int .i64 ku,.int .i64 pu,.string tu] 38)) wx))
 case first =>
  cases e1 with
  |false =>
   go_wp2
   go_meet
   exact ⟨rfl,zE _ _⟩
  |true =>
   go_wp2
   go_meet
   exact ⟨rfl,zE _ _⟩
 case rest =>
 obtain ⟨w5,fP⟩:∃x,x=wc:=⟨_,rfl⟩
 subst fP
 obtain ⟨rfl,hb⟩:=hcut
 replace HZ:=ab ((aa HZ).up (aa hb))
 have hg:=aO (aa hb) (some b)
 clear oL oC oI ox ack ab1
 replace aV:=ab (ax hg (aa aV) (by omega))
 replace aZ:=ab (ax hg (aa aZ) (by omega))
 replace gD:=ab (ax hg (aa gD) (by omega))
 replace HG:=ab ((aa HG).trans hg)
 clear hg hb
 clear he1 he2
 obtain ⟨e3,he3⟩:∃q,(e1&&e2)=q:=⟨_,rfl⟩
 rw[he3] at HE ⊢
 clear he3
 have qA:=seen (aa aV)
 have qs:=aS (aa aV)
 have qz:=seen (aa aZ)
 have qp:=aS (aa aZ)
 have acj:=seen (aa gD)
 have ab0:=aS (aa gD)
 go_upto_if 36 with fail
 go_cut [] (fun wx=>Hid (World.grownBy (w5) wx (some b)∧Zr lo wx b (aT (al (aT (al (aT (al R (nA q pt))) (cE en))) (nA e3 pt)))))
 case first =>
  cases e3 with
  |false =>
   have HH:Hid (World.grownBy (w5) (w5) (some b)∧Zr lo (w5) b (aT (al (aT (al (aT (al R (nA q pt))) (cE en))) (nA false pt)))):=⟨zI _ _,by rw[PL];exact aa HZ⟩
   go_wp2
   go_meet
   exact HH
  |true =>
   go_wp2_with fail
   refine (eu (aa HZ) ⟨kt,pt,tt⟩).mono ?_
   rintro e w0 ⟨hg,hz,v0,rfl,mD,-⟩
   obtain rfl:=mD
   have HH:Hid (World.grownBy (w5) w0 (some b)∧Zr lo w0 b (aT (al (aT (al (aT (al R (nA q pt))) (cE en))) (nA true pt)))):=⟨hg,hz⟩
   clear hg hz
   go_wp2
   go_meet
   exact HH
 case rest =>
 obtain ⟨w6,fP⟩:∃x,x=wc:=⟨_,rfl⟩
 subst fP
 clear qA qs qz qp acj ab0
 obtain ⟨hg,hz⟩:=aa hcut
 replace HZ:=ab hz
 replace aV:=ab (ax hg (aa aV) (by omega))
 replace aZ:=ab (ax hg (aa aZ) (by omega))
 replace gD:=ab (ax hg (aa gD) (by omega))
 replace HG:=ab ((aa HG).trans hg)
 clear hg hz hcut
 obtain ⟨a1,a2⟩:=UM (en:=en) (n:=n) (ku:=ku) (pu:=pu) (tu:=tu) (aa l9) (aa pB) (by rw[aa jx];exact aa HV2)
 rw[aa jx,aa HE] at a1
 replace HZ:=aa HZ
 rw[a1] at HZ
 replace HZ:=ab HZ
 have HA:=ab a2
 clear a1 a2 jx HE HV2 l9 pB
 have Vl:b<w6.heap.size:=by have:=(aa HG).size;omega
 have N3:W.heap.size≤w6.heap.size:=by have:=(aa HG).size;omega
 have Kz:W.heap.size<w6.heap.size:=by have h:=(zA (aa aV)).1;exact h
 have F7:w1.heap.size<w6.heap.size:=by have h:=(zA (aa aZ)).1;exact h
 have ady:w4.heap.size<w6.heap.size:=by have h:=(zA (aa gD)).1;exact h
 replace aV:=ab (bL (aa aV) (.cells #[.int .i64 n,.int .i64 n] 98))
 replace aZ:=ab (bL (aa aZ) (.cells #[.int .i64 n,.int .i64 n] 98))
 replace gD:=ab (bL (aa gD) (.cells #[.int .i64 n,.int .i64 n] 98))
 have bF:=ab (aH (w6) (.cells #[.int .i64 n,.int .i64 n] 98))
 replace HZ:=ab ((aa HZ).up ((zE _ _).alloc (zD _) (.cells #[.int .i64 n,.int .i64 n] 98)))
 replace HG:=ab ((aa HG).trans (aO ((zE _ _).alloc (zD _) (.cells #[.int .i64 n,.int .i64 n] 98)) (some b)))
 have Gy:=seen (aa aV)
 have Gk:=aS (aa aV)
 have Ei:=seen (aa aZ)
 have D7:=aS (aa aZ)
 have aci:=seen (aa gD)
 have abZ:=aS (aa gD)
 have Gv:=seen (aa bF)
 have Gf:=aS (aa bF)
 go_wp2_with fail
 refine (iw (aa HZ) 1 (by decide) Td).mono ?_
 rintro e w7 ⟨rfl,hb⟩
 clear Gy Gk Ei D7 aci abZ Gv Gf
 replace HZ:=ab ((aa HZ).up hb)
 have hg:=aO hb (some b)
 replace aV:=ab (ax hg (aa aV) (by omega))
 replace aZ:=ab (ax hg (aa aZ) (by omega))
 replace gD:=ab (ax hg (aa gD) (by omega))
 replace bF:=ab (ax hg (aa bF) (by omega))
 replace HG:=ab ((aa HG).trans hg)
 clear hb hg
 obtain ⟨q,hq⟩:∃q,fU (aT (al R (jF en))) 1 Td=q:=⟨_,rfl⟩
 rw[hq]
 have jx:=ab hq
 clear hq
 have ZB:W.heap.size≠w6.heap.size:=by omega
 cases q with
 |false =>
  obtain ⟨p2,p3⟩:=UL (aa HZ).2 (aa HA) (aa jx)
  replace HZ:=aa HZ
  rw[p2] at HZ
  replace HZ:=ab HZ
  have P3:=ab p3
  clear p2 p3 HA jx
  have K6:=seen (aa aV)
  have KS:=aS (aa aV)
  have Eh:=seen (aa aZ)
  have D6:=aS (aa aZ)
  have aau:=seen (aa gD)
  have aae:=aS (aa gD)
  have K4:=seen (aa bF)
  have KM:=aS (aa bF)
  obtain ⟨t1,t2,t3⟩:=qV (aa HG) (aa HZ) cB.2 AQ (aa aV) (.int .i64 n) (.int .i64 n)
  have T1:=ab t1
  have T2:=ab t2
  have T3:=ab t3
  clear t1 t2 t3
  go_wp2
  refine bodyPost_ret (results_cell_row rfl _ _ (W.heap.size) 98 #[.int .i64 n,.int .i64 n] (0,0) _ rfl (aa T1) Tryz.underlying98 rfl pZ) rfl ?_
  exact ⟨aa T2,aa T3,_,rfl,⟨(n,n),rfl⟩,fun a s e=>by rw[aa P3 a s e];rfl⟩
 |true =>
  obtain ⟨s3,hs3,hto⟩:=fB (aa jx)
  replace HZ:=aa HZ
  rw[hs3] at HZ
  replace HZ:=ab HZ
  have xM:Hid (Gd s3):=(aa HZ).2
  have HS3:=ab hs3
  have HTO:=ab hto
  clear hs3 hto jx
  obtain ⟨i7,ci,fi,bD,hi⟩:=(aa HZ).next (fun s' e=>by cases e;exact eR (aa xM).en (aa HTO) (by decide))
  obtain ⟨g1,z1⟩:=bD (wrap64 (i7+1)) (fun s e=>eJ (hi s e))
  have K6:=seen (aa aV)
  have KS:=aS (aa aV)
  have Eh:=seen (aa aZ)
  have D6:=aS (aa aZ)
  have aau:=seen (aa gD)
  have aae:=aS (aa gD)
  have K4:=seen (aa bF)
  have KM:=aS (aa bF)
  replace aV:=ab (ax g1 (aa aV) (by omega))
  replace aZ:=ab (ax g1 (aa aZ) (by omega))
  replace gD:=ab (ax g1 (aa gD) (by omega))
  replace bF:=ab (ax g1 (aa bF) (by omega))
  replace HG:=ab ((aa HG).trans g1)
  replace HZ:=ab z1
  clear g1 z1 bD hi
  have CJ:Hid (Zr lo (w7.setCell ⟨b,1,none⟩ (.int .i64 (wrap64 (i7+1)))) b (.ok s3.nx)):=aa HZ
  replace HZ:=CJ
  clear CJ
  have SD:=seen (aa aV)
  have Si:=aS (aa aV)
  have SC:=seen (aa aZ)
  have Sg:=aS (aa aZ)
  have ach:=seen (aa gD)
  have abY:=aS (aa gD)
  have SB:=seen (aa bF)
  have Sf:=aS (aa bF)
  go_wp2_with fail
  refine (iw (aa HZ) 1 (by decide) Ke).mono ?_
  rintro e w8 ⟨rfl,hb⟩
  clear K6 KS Eh D6 aau aae K4 KM ci fi SD Si SC Sg ach abY SB Sf
  replace HZ:=ab ((aa HZ).up hb)
  have hg:=aO hb (some b)
  replace aV:=ab (ax hg (aa aV) (by omega))
  replace aZ:=ab (ax hg (aa aZ) (by omega))
  replace gD:=ab (ax hg (aa gD) (by omega))
  replace bF:=ab (ax hg (aa bF) (by omega))
  replace HG:=ab ((aa HG).trans hg)
  clear hb hg
  obtain ⟨q,hq⟩:∃q,fU (.ok s3.nx) 1 Ke=q:=⟨_,rfl⟩
  rw[hq]
  have jx:=ab hq
  clear hq
  cases q with
  |true =>
   obtain ⟨i8,ci,fi,bD,hi⟩:=(aa HZ).next (fun s' e=>by cases e;exact eR (aa xM).nx.en (aa jx) (by decide))
   obtain ⟨g1,z1⟩:=bD (wrap64 (i8+1)) (fun s e=>eJ (hi s e))
   have Jb:=seen (aa aV)
   have IX:=aS (aa aV)
   have I':=seen (aa aZ)
   have IT:=aS (aa aZ)
   have TX:=seen (aa gD)
   have TQ:=aS (aa gD)
   have I7:=seen (aa bF)
   have IQ:=aS (aa bF)
   replace aV:=ab (ax g1 (aa aV) (by omega))
   replace aZ:=ab (ax g1 (aa aZ) (by omega))
   replace gD:=ab (ax g1 (aa gD) (by omega))
   replace bF:=ab (ax g1 (aa bF) (by omega))
   replace HG:=ab ((aa HG).trans g1)
   replace HZ:=ab z1
   clear g1 z1 bD hi
   obtain ⟨p2,p3⟩:=UK (aa xM) (aa HS3) (aa HA) (aa HTO) (aa jx)
   have CJ:Hid (Zr lo (w8.setCell ⟨b,1,none⟩ (.int .i64 (wrap64 (i8+1)))) b (aT (al R (gE en)))):=by show Zr _ _ _ _;rw[←p2];exact aa HZ
   replace HZ:=CJ
   have P3:=ab p3
   clear p2 p3 CJ HA jx HTO HS3 xM
   cases en with
   |true =>
    obtain ⟨k1,g1⟩:=aC (j:=1) (aa bF) (.int .i64 2147483647)
    have gg:=g1
    replace aV:=ab (ax gg (aa aV) (by omega))
    replace aZ:=ab (ax gg (aa aZ) (by omega))
    replace gD:=ab (ax gg (aa gD) (by omega))
    replace bF:Hid (((w8.setCell ⟨b,1,none⟩ (.int .i64 (wrap64 (i8+1)))).setCell ⟨w6.heap.size,1,none⟩ (.int .i64 2147483647)).heap[w6.heap.size]?=some (.cells #[.int .i64 n,.int .i64 2147483647] 98 (0,0))):=k1
    replace HZ:=ab ((aa HZ).gu gg (by omega))
    replace HG:=ab (cx (aa HG) gg (by omega))
    clear gg k1 g1
    have Ja:=seen (aa aV)
    have IW:=aS (aa aV)
    have I9:=seen (aa aZ)
    have IS:=aS (aa aZ)
    have Pf:=seen (aa gD)
    have OH:=aS (aa gD)
    have I6:=seen (aa bF)
    have IN:=aS (aa bF)
    obtain ⟨t1,t2,t3⟩:=qV (aa HG) (aa HZ) cB.2 AQ (aa aV) (.int .i64 n) (.int .i64 2147483647)
    have T1:=ab t1
    have T2:=ab t2
    have T3:=ab t3
    clear t1 t2 t3
    go_wp2
    refine bodyPost_ret (results_cell_row rfl _ _ (W.heap.size) 98 #[.int .i64 n,.int .i64 2147483647] (0,0) _ rfl (aa T1) Tryz.underlying98 rfl pZ) rfl ?_
    exact ⟨aa T2,aa T3,_,rfl,⟨(n,2147483647),rfl⟩,fun a s e=>by rw[aa P3 a s e];rfl⟩
   |false =>
    obtain ⟨k1,g1⟩:=aC (j:=1) (aa bF) (.int .i64 2147483647)
    obtain ⟨k2,g2⟩:=aC (j:=1) k1 (.int .i64 536870911)
    have gg:=(g1.trans g2)
    replace aV:=ab (ax gg (aa aV) (by omega))
    replace aZ:=ab (ax gg (aa aZ) (by omega))
    replace gD:=ab (ax gg (aa gD) (by omega))
    replace bF:Hid ((((w8.setCell ⟨b,1,none⟩ (.int .i64 (wrap64 (i8+1)))).setCell ⟨w6.heap.size,1,none⟩ (.int .i64 2147483647)).setCell ⟨w6.heap.size,1,none⟩ (.int .i64 536870911)).heap[w6.heap.size]?=some (.cells #[.int .i64 n,.int .i64 536870911] 98 (0,0))):=k2
    replace HZ:=ab ((aa HZ).gu gg (by omega))
    replace HG:=ab (cx (aa HG) gg (by omega))
    clear gg k1 g1 k2 g2
    have Ja:=seen (aa aV)
    have IW:=aS (aa aV)
    have I9:=seen (aa aZ)
    have IS:=aS (aa aZ)
    have Pf:=seen (aa gD)
    have OH:=aS (aa gD)
    have I6:=seen (aa bF)
    have IN:=aS (aa bF)
    obtain ⟨t1,t2,t3⟩:=qV (aa HG) (aa HZ) cB.2 AQ (aa aV) (.int .i64 n) (.int .i64 536870911)
    have T1:=ab t1
    have T2:=ab t2
    have T3:=ab t3
    clear t1 t2 t3
    go_wp2
    refine bodyPost_ret (results_cell_row rfl _ _ (W.heap.size) 98 #[.int .i64 n,.int .i64 536870911] (0,0) _ rfl (aa T1) Tryz.underlying98 rfl pZ) rfl ?_
    exact ⟨aa T2,aa T3,_,rfl,⟨(n,536870911),rfl⟩,fun a s e=>by rw[aa P3 a s e];rfl⟩
  |false =>
   have Jb:=seen (aa aV)
   have IX:=aS (aa aV)
   have I':=seen (aa aZ)
   have IT:=aS (aa aZ)
   have TX:=seen (aa gD)
   have TQ:=aS (aa gD)
   have I7:=seen (aa bF)
   have IQ:=aS (aa bF)
   go_wp2_with fail
   refine (CS (aa HZ) en).mono ?_
   rintro e w9 ⟨hg,hz,v9,rfl,abC,hv9⟩
   clear Jb IX I' IT TX TQ I7 IQ
   replace HZ:=ab hz
   replace aV:=ab (ax hg (aa aV) (by omega))
   replace aZ:=ab (ax hg (aa aZ) (by omega))
   replace gD:=ab (ax hg (aa gD) (by omega))
   replace bF:=ab (ax hg (aa bF) (by omega))
   replace HG:=ab ((aa HG).trans hg)
   clear hg hz
   obtain ⟨m,⟨kv,pv,tv⟩,rfl⟩:=abC
   have Ui:Hid (∀a s,al (.ok s3.nx) (cE en)=.ok (a,s)→a=(m,(⟨kv,pv,tv⟩:Tk))):=fun a s e=>BD (hv9 a s e)
   clear hv9
   unfold Tk.val
   obtain ⟨p2,p3⟩:=UJ (sp:=pv) (aa xM) rfl (aa HS3) (aa HA) (aa HTO) (aa jx) (aa Ui)
   have P2:=ab p2
   have P3:=ab p3
   clear p2 p3 HA jx HTO HS3 xM Ui
   have Ja:=seen (aa aV)
   have IW:=aS (aa aV)
   have I9:=seen (aa aZ)
   have IS:=aS (aa aZ)
   have Pf:=seen (aa gD)
   have OH:=aS (aa gD)
   have I6:=seen (aa bF)
   have IN:=aS (aa bF)
   obtain ⟨k1,g1⟩:=aC (j:=1) (aa bF) (.int .i64 m)
   replace aV:=ab (ax g1 (aa aV) (by omega))
   replace aZ:=ab (ax g1 (aa aZ) (by omega))
   replace gD:=ab (ax g1 (aa gD) (by omega))
   replace bF:Hid ((w9.setCell ⟨w6.heap.size,1,none⟩ (.int .i64 m)).heap[w6.heap.size]?=some (.cells #[.int .i64 n,.int .i64 m] 98 (0,0))):=k1
   replace HZ:=ab ((aa HZ).gu g1 (by omega))
   replace HG:=ab (cx (aa HG) g1 (by omega))
   clear k1 g1
   have aaA:=seen (aa aV)
   have aak:=aS (aa aV)
   have aay:=seen (aa aZ)
   have aai:=aS (aa aZ)
   have aaw:=seen (aa gD)
   have aag:=aS (aa gD)
   have aat:=seen (aa bF)
   have aad:=aS (aa bF)
   obtain ⟨k0,g0⟩:=aC (j:=0) (aa gD) (.int .i64 kv)
   obtain ⟨k1,g1⟩:=aC (j:=1) k0 (.int .i64 pv)
   obtain ⟨k2,g2⟩:=aC (j:=2) k1 (.string tv)
   have gg:=((g0.trans g1).trans g2)
   replace aV:=ab (ax gg (aa aV) (by omega))
   replace aZ:=ab (ax gg (aa aZ) (by omega))
   replace bF:=ab (ax gg (aa bF) (by omega))
   replace gD:Hid (((((w9.setCell ⟨w6.heap.size,1,none⟩ (.int .i64 m)).setCell ⟨w4.heap.size,0,none⟩ (.int .i64 kv)).setCell ⟨w4.heap.size,1,none⟩ (.int .i64 pv)).setCell ⟨w4.heap.size,2,none⟩ (.string tv)).heap[w4.heap.size]?=some (.cells #[.int .i64 kv,.int .i64 pv,.string tv] 38 (0,0))):=k2
   replace HZ:=ab ((aa HZ).gu gg (by omega))
   replace HG:=ab (cx (aa HG) gg (by omega))
   clear gg k0 g0 k1 g1 k2 g2
   obtain ⟨q2,lG⟩:∃q,decide (m<n)=q:=⟨_,rfl⟩
   have wX:=ab lG
   have aaz:=seen (aa aV)
   have aaj:=aS (aa aV)
   have aax:=seen (aa aZ)
   have aah:=aS (aa aZ)
   have aav:=seen (aa gD)
   have aaf:=aS (aa gD)
   have aas:=seen (aa bF)
   have aac:=aS (aa bF)
   have RT:w6.heap.size≠w4.heap.size:=by omega
   have F5:w4.heap.size≠w6.heap.size:=by omega
   go_upto_if 78 with fail
   go_cut [] (fun wx=>Hid (World.grownBy ((((w9.setCell ⟨w6.heap.size,1,none⟩ (.int .i64 m)).setCell ⟨w4.heap.size,0,none⟩ (.int .i64 kv)).setCell ⟨w4.heap.size,1,none⟩ (.int .i64 pv)).setCell ⟨w4.heap.size,2,none⟩ (.string tv)) wx (some b)∧Zr lo wx b (aT (al R (gE en)))))
   case first =>
    cases q2 with
    |true =>
     go_wp2_with fail
     refine (gV (aa HZ) 55 pv (by decide)).mono ?_
     rintro e w0 ⟨rfl,hg,hz⟩
     have HH:Hid (World.grownBy ((((w9.setCell ⟨w6.heap.size,1,none⟩ (.int .i64 m)).setCell ⟨w4.heap.size,0,none⟩ (.int .i64 kv)).setCell ⟨w4.heap.size,1,none⟩ (.int .i64 pv)).setCell ⟨w4.heap.size,2,none⟩ (.string tv)) w0 (some b)∧Zr lo w0 b (aT (al R (gE en)))):=⟨hg,by
      rw[←aa P2,if_pos (of_decide_eq_true (aa wX))]
      exact hz⟩
     clear hg hz
     go_wp2
     go_meet
     exact HH
    |false =>
     have HH:Hid (World.grownBy ((((w9.setCell ⟨w6.heap.size,1,none⟩ (.int .i64 m)).setCell ⟨w4.heap.size,0,none⟩ (.int .i64 kv)).setCell ⟨w4.heap.size,1,none⟩ (.int .i64 pv)).setCell ⟨w4.heap.size,2,none⟩ (.string tv)) ((((w9.setCell ⟨w6.heap.size,1,none⟩ (.int .i64 m)).setCell ⟨w4.heap.size,0,none⟩ (.int .i64 kv)).setCell ⟨w4.heap.size,1,none⟩ (.int .i64 pv)).setCell ⟨w4.heap.size,2,none⟩ (.string tv)) (some b)∧Zr lo ((((w9.setCell ⟨w6.heap.size,1,none⟩ (.int .i64 m)).setCell ⟨w4.heap.size,0,none⟩ (.int .i64 kv)).setCell ⟨w4.heap.size,1,none⟩ (.int .i64 pv)).setCell ⟨w4.heap.size,2,none⟩ (.string tv)) b (aT (al R (gE en)))):=⟨zI _ _,by
      rw[←aa P2,if_neg (of_decide_eq_false (aa wX))]
      exact aa HZ⟩
     go_wp2
     go_meet
     exact HH
   case rest =>
   obtain ⟨w10,fP⟩:∃x,x=wc:=⟨_,rfl⟩
   subst fP
   clear Ja IW I9 IS Pf OH I6 IN aaA aak aay aai aaw aag aat aad aaz aaj aax aah aav aaf aas aac
   obtain ⟨hg,hz⟩:=aa hcut
   replace HZ:=ab hz
   replace aV:=ab (ax hg (aa aV) (by omega))
   replace aZ:=ab (ax hg (aa aZ) (by omega))
   replace gD:=ab (ax hg (aa gD) (by omega))
   replace bF:=ab (ax hg (aa bF) (by omega))
   replace HG:=ab ((aa HG).trans hg)
   clear hg hz hcut
   clear lG wX RT F5
   have ac6:=seen (aa aV)
   have ac2:=aS (aa aV)
   have ac5:=seen (aa aZ)
   have ac1:=aS (aa aZ)
   have ac4:=seen (aa gD)
   have ac0:=aS (aa gD)
   have ac3:=seen (aa bF)
   have acZ:=aS (aa bF)
   obtain ⟨t1,t2,t3⟩:=qV (aa HG) (aa HZ) cB.2 AQ (aa aV) (.int .i64 n) (.int .i64 m)
   have T1:=ab t1
   have T2:=ab t2
   have T3:=ab t3
   clear t1 t2 t3
   go_wp2
   refine bodyPost_ret (results_cell_row rfl _ _ (W.heap.size) 98 #[.int .i64 n,.int .i64 m] (0,0) _ rfl (aa T1) Tryz.underlying98 rfl pZ) rfl ?_
   exact ⟨aa T2,aa T3,_,rfl,⟨(n,m),rfl⟩,fun a s e=>by rw[aa P3 a s e];rfl⟩
end Go.Proofs.YtjophoclfccmcaaGreatDoor

import Derived.Test.YtjophoclfccmcaaGreatDoorM37
set_option maxHeartbeats 4000000
set_option maxRecDepth 100000
namespace Go.Proofs.YtjophoclfccmcaaGreatDoor
open Go.RowKit
attribute [local go_sem ↓] Go.wp_at_zero Go.wp_at_succ
def nV:ByteArray:=⟨#[111,112,116,105,111,110,97,108]⟩
def pf:ByteArray:=⟨#[114,101,112,101,97,116,101,100]⟩
noncomputable def fX (s:ay):Except (Int×Int) (Fd×ay):=if aJ s.here 1 nV=true then cU 2 s else if aJ s.here 1 pf=true then cU 3 s else cq 0 s
def RL (q:Bool) (pt:Int) (R:PX):PX:=if q=true then aT (al (kK (aT (al R (aP pt)))) (dj [⟨#[103,114,111,117,112]⟩])) else R
def XU (q p:Bool):Int:=if q=true then (if p=true then 3 else 2) else 1
theorem Dv {t:Tk}{x:ByteArray} (h:aJ t 1 x=true):t.kind=1∧t.text.toList=x.toList:=by
 unfold aJ at h
 rw[Bool.and_eq_true] at h
 exact ⟨by simpa using h.1,by simpa using h.2⟩
theorem Tn {s:ay} (hg:Gd s) (c:Int) (x:ByteArray) (hv:∀a s',al (RL true s.here.spot (.ok s)) (fun u=>ba true (ll false u))=.ok (a,s')→Value.string x=.string a):al (aT (al (RL true s.here.spot (.ok s)) (fun u=>ba true (ll false u)))) (AL ⟨c,⟨#[]⟩,x,⟨#[]⟩,0,0⟩)=cU c s:=by
 unfold RL at hv ⊢
 rw[if_pos rfl] at hv ⊢
 simp only[Iu,fe,jD,seq_assoc,PM] at hv ⊢
 simp only[al] at hv ⊢
 unfold cU
 rw[gO hg]
 cases h1:aP s.here.spot s with
 |error y=>rfl
 |ok p1 =>
  rw[h1] at hv
  simp only[aL,Fx] at hv ⊢
  have ho:([⟨#[103,114,111,117,112]⟩]:List ByteArray).any (fun x=>aJ p1.2.nx.here 1 x)=aJ p1.2.nx.here 1 ⟨#[103,114,111,117,112]⟩:=by simp
  rw[ho] at hv ⊢
  by_cases hq:aJ p1.2.nx.here 1 ⟨#[103,114,111,117,112]⟩=true
  ·rw[if_pos hq,if_pos hq];rfl
  ·rw[if_neg hq] at hv
   rw[if_neg hq,if_neg hq]
   simp only[aL] at hv ⊢
   unfold gG
   cases h3:ba true p1.2.nx with
   |error y=>rfl
   |ok p3 =>
    have e3:x=p3.1:=by simpa using hv p3.1 p3.2 h3
    simp only[aL]
    rw[e3]
theorem aal {R:PX}{kd pt:Int}{tt x:ByteArray} (hg:lq R) (hp:EF R ⟨kd,pt,tt⟩)
  (hv:∀a s,al (RL (fU R 1 nV ||fU R 1 pf) pt R) (fun u=>ba true (ll (!(fU R 1 nV ||fU R 1 pf)) u))=.ok (a,s)→Value.string x=.string a) :
  al (aT (al (RL (fU R 1 nV ||fU R 1 pf) pt R) (fun u=>ba true (ll (!(fU R 1 nV ||fU R 1 pf)) u)))) (AL ⟨XU (fU R 1 nV ||fU R 1 pf) (tt.toList==[114,101,112,101,97,116,101,100]),⟨#[]⟩,x,⟨#[]⟩,0,0⟩)=al R fX:=by
 match R,hg,hp,hv with
 |.error y,_,_,_=>rfl
 |.ok s,hg,hp,hv =>
  have ht:pt=s.here.spot:=hp.2.1
  subst ht
  rw[show fU (.ok s) 1 nV=aJ s.here 1 nV from rfl,show fU (.ok s) 1 pf=aJ s.here 1 pf from rfl] at hv ⊢
  show _=fX s
  unfold fX
  by_cases ho:aJ s.here 1 nV=true
  ·obtain ⟨w1,w2⟩:=Dv ho
   have Xv:tt=s.here.text:=congrArg Tk.text (hp.2.2 (by rw[w1];decide))
   have dV:(tt.toList==[114,101,112,101,97,116,101,100])=false:=by rw[Xv,w2];decide +kernel
   rw[ho,Bool.true_or] at hv ⊢
   rw[dV,if_pos rfl]
   exact Tn hg 2 x hv
  ·have ho2:aJ s.here 1 nV=false:=by simpa using ho
   rw[ho2,Bool.false_or] at hv ⊢
   rw[if_neg Bool.false_ne_true]
   by_cases hr:aJ s.here 1 pf=true
   ·obtain ⟨w1,w2⟩:=Dv hr
    have Xv:tt=s.here.text:=congrArg Tk.text (hp.2.2 (by rw[w1];decide))
    have dV:(tt.toList==[114,101,112,101,97,116,101,100])=true:=by rw[Xv,w2];decide +kernel
    rw[hr] at hv ⊢
    rw[dV,if_pos rfl]
    exact Tn hg 3 x hv
   ·have AR:aJ s.here 1 pf=false:=by simpa using hr
    rw[AR] at hv ⊢
    rw[if_neg Bool.false_ne_true]
    show al (aT (ba true s.begun)) (AL ⟨1,⟨#[]⟩,x,⟨#[]⟩,0,0⟩)=cq 0 s
    replace hv:∀a s',ba true s.begun=.ok (a,s')→Value.string x=.string a:=hv
    unfold cq gG
    cases h3:ba true s.begun with
    |error y=>rfl
    |ok p3 =>
     have e3:x=p3.1:=by simpa using hv p3.1 p3.2 h3
     rw[e3]
     rfl
theorem LU {W:World}{lo b:Nat}{R:PX} (h:Zr lo W b R):Calls Tryz.prog 111 #[.pointer (some ⟨b,0,none⟩)] W (ZQ lo b W Fd.val Vg (al R fX)):=by
 have cB:=h.low
 have l9:Hid (lq R):=h.2
 have HZ:=ab h
 have HG:Hid (W.grownBy W (some b)):=zI _ _
 clear h
 have Vm:b<W.heap.size:=by have:=(aa HG).size;omega
 have AQ:W.heap.size≤W.heap.size:=by have:=(aa HG).size;omega
 have aV:=ab (aH (W) (.cells #[.int .i64 0,.string ⟨#[]⟩,.string ⟨#[]⟩,.string ⟨#[]⟩,.int .i64 0,.int .i64 0] 45))
 replace HZ:=ab ((aa HZ).up ((zE _ _).alloc (zD _) (.cells #[.int .i64 0,.string ⟨#[]⟩,.string ⟨#[]⟩,.string ⟨#[]⟩,.int .i64 0,.int .i64 0] 45)))
 replace HG:=ab ((aa HG).trans (aO ((zE _ _).alloc (zD _) (.cells #[.int .i64 0,.string ⟨#[]⟩,.string ⟨#[]⟩,.string ⟨#[]⟩,.int .i64 0,.int .i64 0] 45)) (some b)))
 have Vl:b<W.heap.size+1:=by have:=(aa HG).size;simp only[zJ] at this;omega
 have N3:W.heap.size≤W.heap.size+1:=by have:=(aa HG).size;simp only[zJ] at this;omega
 have Kz:W.heap.size<W.heap.size+1:=by have h:=(zA (aa aV)).1;simp only[zJ] at h;exact h
 replace aV:=ab (bL (aa aV) (.cells #[.int .i64 1,.string ⟨#[]⟩,.string ⟨#[]⟩,.string ⟨#[]⟩,.int .i64 0,.int .i64 0] 45))
 have bF:=ab (aH (W.alloc (.cells #[.int .i64 0,.string ⟨#[]⟩,.string ⟨#[]⟩,.string ⟨#[]⟩,.int .i64 0,.int .i64 0] 45)) (.cells #[.int .i64 1,.string ⟨#[]⟩,.string ⟨#[]⟩,.string ⟨#[]⟩,.int .i64 0,.int .i64 0] 45))
 replace bF:Hid (((W.alloc (.cells #[.int .i64 0,.string ⟨#[]⟩,.string ⟨#[]⟩,.string ⟨#[]⟩,.int .i64 0,.int .i64 0] 45)).alloc (.cells #[.int .i64 1,.string ⟨#[]⟩,.string ⟨#[]⟩,.string ⟨#[]⟩,.int .i64 0,.int .i64 0] 45)).heap[W.heap.size+1]?=some (.cells #[.int .i64 1,.string ⟨#[]⟩,.string ⟨#[]⟩,.string ⟨#[]⟩,.int .i64 0,.int .i64 0] 45 (0,0))):=by have h:=aa bF;simp only[zJ] at h;exact h
 replace HZ:=ab ((aa HZ).up ((zE _ _).alloc (zD _) (.cells #[.int .i64 1,.string ⟨#[]⟩,.string ⟨#[]⟩,.string ⟨#[]⟩,.int .i64 0,.int .i64 0] 45)))
 replace HG:=ab ((aa HG).trans (aO ((zE _ _).alloc (zD _) (.cells #[.int .i64 1,.string ⟨#[]⟩,.string ⟨#[]⟩,.string ⟨#[]⟩,.int .i64 0,.int .i64 0] 45)) (some b)))
 go_enter Tryz.func111,Tryz.ntmps111
 have qC:=seen (aa aV)
 have qu:=aS (aa aV)
 have Gx:=seen (aa bF)
 have Gh:=aS (aa bF)
 go_wp2_with fail
 refine (gf (aa HZ)).mono ?_
 rintro e w1 ⟨⟨kt,pt,tt⟩,rfl,hb,hp⟩
 clear qC qu Gx Gh
 have pB:=ab hp
 replace HZ:=ab ((aa HZ).up hb)
 have hg:=aO hb (some b)
 replace aV:=ab (ax hg (aa aV) (by omega))
 replace bF:=ab (ax hg (aa bF) (by omega))
 replace HG:=ab ((aa HG).trans hg)
 clear hb hp hg
 unfold Tk.val
 have NZ:b<w1.heap.size:=by have:=(aa HG).size;omega
 have RN:W.heap.size≤w1.heap.size:=by have:=(aa HG).size;omega
 have DV:W.heap.size<w1.heap.size:=by have h:=(zA (aa aV)).1;exact h
 have adw:W.heap.size+1<w1.heap.size:=by have h:=(zA (aa bF)).1;exact h
 replace aV:=ab (bL (aa aV) (.cells #[.int .i64 kt,.int .i64 pt,.string tt] 38))
 replace bF:=ab (bL (aa bF) (.cells #[.int .i64 kt,.int .i64 pt,.string tt] 38))
 have aZ:=ab (aH (w1) (.cells #[.int .i64 kt,.int .i64 pt,.string tt] 38))
 replace HZ:=ab ((aa HZ).up ((zE _ _).alloc (zD _) (.cells #[.int .i64 kt,.int .i64 pt,.string tt] 38)))
 replace HG:=ab ((aa HG).trans (aO ((zE _ _).alloc (zD _) (.cells #[.int .i64 kt,.int .i64 pt,.string tt] 38)) (some b)))
 have qB:=seen (aa aV)
 have qt:=aS (aa aV)
 have Gw:=seen (aa bF)
 have Gg:=aS (aa bF)
 have lY:=seen (aa aZ)
 have lU:=aS (aa aZ)
 go_upto_region 4 with fail
 go_cut [14] (fun v14 wx=>v14=.bool (fU R 1 nV ||fU R 1 pf)∧Hid (Below (w1.alloc (.cells #[.int .i64 kt,.int .i64 pt,.string tt] 38)).heap.size (w1.alloc (.cells #[.int .i64 kt,.int .i64 pt,.string tt] 38)) wx))
 case first =>
  go_wp2_with fail
  refine (iw (aa HZ) 1 (by decide) nV).mono ?_
  rintro e w0 ⟨rfl,hb⟩
  have HB:=ab hb
  have HZ0:=ab ((aa HZ).up hb)
  clear hb
  obtain ⟨o,ho⟩:∃o,fU R 1 nV=o:=⟨_,rfl⟩
  rw[ho]
  have HO:=ab ho
  clear ho
  cases o with
  |true =>
   go_wp2
   go_meet
   exact ⟨by rw[aa HO];rfl,HB⟩
  |false =>
   go_wp2_with fail
   refine (iw (aa HZ0) 1 (by decide) pf).mono ?_
   rintro e w9 ⟨rfl,hb⟩
   have jm:Hid (Below (w1.alloc (.cells #[.int .i64 kt,.int .i64 pt,.string tt] 38)).heap.size (w1.alloc (.cells #[.int .i64 kt,.int .i64 pt,.string tt] 38)) w9):=(aa HB).trans (hb.mono (aa HB).size)
   clear hb
   go_wp2
   go_meet
   exact ⟨by rw[aa HO,Bool.false_or],jm⟩
 case rest =>
 obtain ⟨w2,fP⟩:∃x,x=wc:=⟨_,rfl⟩
 subst fP
 obtain ⟨rfl,hb⟩:=hcut
 replace HZ:=ab ((aa HZ).up (aa hb))
 have hg:=aO (aa hb) (some b)
 clear qB qt Gw Gg lY lU
 replace aV:=ab (ax hg (aa aV) (by omega))
 replace bF:=ab (ax hg (aa bF) (by omega))
 replace aZ:=ab (ax hg (aa aZ) (by omega))
 replace HG:=ab ((aa HG).trans hg)
 clear hg hb
 obtain ⟨q,hq⟩:∃q,(fU R 1 nV ||fU R 1 pf)=q:=⟨_,rfl⟩
 rw[hq]
 have jx:=ab hq
 clear hq
 obtain ⟨p,hp⟩:∃p,(tt.toList==[114,101,112,101,97,116,101,100])=p:=⟨_,rfl⟩
 have HPP:=ab hp
 have rQ:=seen (aa aV)
 have rG:=aS (aa aV)
 have K5:=seen (aa bF)
 have KN:=aS (aa bF)
 have oK:=seen (aa aZ)
 have oA:=aS (aa aZ)
 go_upto_if 14 with fail
 go_cut [5] (fun v5 wx=>v5=.bool (!q)∧Hid (W.grownBy wx (some b)∧Zr lo wx b (RL q pt R)∧wx.heap[W.heap.size]?=some (.cells #[.int .i64 0,.string ⟨#[]⟩,.string ⟨#[]⟩,.string ⟨#[]⟩,.int .i64 0,.int .i64 0] 45 (0,0))∧wx.heap[W.heap.size+1]?=some (.cells #[.int .i64 (XU q p),.string ⟨#[]⟩,.string ⟨#[]⟩,.string ⟨#[]⟩,.int .i64 0,.int .i64 0] 45 (0,0))∧wx.heap[w1.heap.size]?=some (.cells #[.int .i64 kt,.int .i64 pt,.string tt] 38 (0,0))))
 case first =>
  cases q with
  |false =>
   have HH:Hid ((fun wx=>W.grownBy wx (some b)∧Zr lo wx b (RL false pt R)∧wx.heap[W.heap.size]?=some (.cells #[.int .i64 0,.string ⟨#[]⟩,.string ⟨#[]⟩,.string ⟨#[]⟩,.int .i64 0,.int .i64 0] 45 (0,0))∧wx.heap[W.heap.size+1]?=some (.cells #[.int .i64 (XU false p),.string ⟨#[]⟩,.string ⟨#[]⟩,.string ⟨#[]⟩,.int .i64 0,.int .i64 0] 45 (0,0))∧wx.heap[w1.heap.size]?=some (.cells #[.int .i64 kt,.int .i64 pt,.string tt] 38 (0,0))) (w2)):=⟨aa HG,aa HZ,aa aV,aa bF,aa aZ⟩
   go_wp2
   go_meet
   exact ⟨rfl,HH⟩
  |true =>
   have hs:∃s,R=.ok s∧0<s.ts.length:=by
    have hq:=aa jx
    match R,aa l9,hq with
    |.ok s,sb,hq =>
     refine ⟨s,rfl,?_⟩
     rcases Bool.or_eq_true_iff.1 hq with h1|h1
     ·exact eR sb.en h1 (by decide)
     ·exact eR sb.en h1 (by decide)
    |.error y,_,hq=>cases hq
   have HS:=ab hs
   clear hs
   cases p with
   |true =>
    obtain ⟨k1,g1⟩:=aC (j:=0) (aa bF) (.int .i64 2)
    obtain ⟨k2,g2⟩:=aC (j:=0) k1 (.int .i64 3)
    have gg:=(g1.trans g2)
    replace aV:=ab (ax gg (aa aV) (by omega))
    replace aZ:=ab (ax gg (aa aZ) (by omega))
    replace bF:Hid (((w2.setCell ⟨W.heap.size+1,0,none⟩ (.int .i64 2)).setCell ⟨W.heap.size+1,0,none⟩ (.int .i64 3)).heap[W.heap.size+1]?=some (.cells #[.int .i64 3,.string ⟨#[]⟩,.string ⟨#[]⟩,.string ⟨#[]⟩,.int .i64 0,.int .i64 0] 45 (0,0))):=k2
    replace HZ:=ab ((aa HZ).gu gg (by omega))
    replace HG:=ab (cx (aa HG) gg (by omega))
    clear gg k1 g1 k2 g2
    have oM:=seen (aa aV)
    have oD:=aS (aa aV)
    have Cg:=seen (aa bF)
    have B1:=aS (aa bF)
    have oJ:=seen (aa aZ)
    have oy:=aS (aa aZ)
    go_wp2_with fail
    refine (eu (aa HZ) ⟨kt,pt,tt⟩).mono ?_
    rintro e w3 ⟨hg,hz,v3,rfl,ni,lv⟩
    clear oM oD Cg B1 oJ oy
    replace HZ:=ab hz
    replace aV:=ab (ax hg (aa aV) (by omega))
    replace bF:=ab (ax hg (aa bF) (by omega))
    replace aZ:=ab (ax hg (aa aZ) (by omega))
    replace HG:=ab ((aa HG).trans hg)
    clear hg hz
    obtain rfl:=ni
    clear lv
    obtain ⟨i3,ci,fi,bD,hi⟩:=(aa HZ).next (fun s' e=>by
      obtain ⟨s,rfl,hl⟩:=aa HS
      cases hb:aP pt s with
      |error y=>rw[show al (.ok s) (aP pt)=aP pt s from rfl,hb] at e;cases e
      |ok p =>
       rw[show al (.ok s) (aP pt)=aP pt s from rfl,hb] at e
       cases e
       have e2:p.2.ts=s.ts:=by unfold aP at hb;split at hb;cases hb;cases hb;rfl
       rw[e2]
       exact hl)
    obtain ⟨g1,z1⟩:=bD (wrap64 (i3+1)) (fun s e=>eJ (hi s e))
    have oL:=seen (aa aV)
    have oC:=aS (aa aV)
    have y9:=seen (aa bF)
    have yX:=aS (aa bF)
    have oI:=seen (aa aZ)
    have ox:=aS (aa aZ)
    replace aV:=ab (ax g1 (aa aV) (by omega))
    replace bF:=ab (ax g1 (aa bF) (by omega))
    replace aZ:=ab (ax g1 (aa aZ) (by omega))
    replace HG:=ab ((aa HG).trans g1)
    replace HZ:=ab z1
    clear g1 z1 bD hi
    have HW:=ab (mY (w3.setCell ⟨b,1,none⟩ (.int .i64 (wrap64 (i3+1)))) [⟨#[103,114,111,117,112]⟩] 9)
    replace HW:=aa HW
    simp only[World.size_setCell] at HW
    replace HW:=ab HW
    replace aV:=ab (bL (aa aV) (.cells #[.string ⟨#[103,114,111,117,112]⟩] 9))
    replace bF:=ab (bL (aa bF) (.cells #[.string ⟨#[103,114,111,117,112]⟩] 9))
    replace aZ:=ab (bL (aa aZ) (.cells #[.string ⟨#[103,114,111,117,112]⟩] 9))
    replace HZ:=ab ((aa HZ).up ((zE _ _).alloc (zD _) (.cells #[.string ⟨#[103,114,111,117,112]⟩] 9)))
    replace HG:=ab ((aa HG).trans (aO ((zE _ _).alloc (zD _) (.cells #[.string ⟨#[103,114,111,117,112]⟩] 9)) (some b)))
    have qA:=seen (aa aV)
    have qs:=aS (aa aV)
    have sY:=seen (aa bF)
    have sU:=aS (aa bF)
    have qz:=seen (aa aZ)
    have qp:=aS (aa aZ)
    go_wp2_with fail
    refine (gY (aa HZ) (aa HW)).mono ?_
    rintro e w4 ⟨hg,hz,v4,rfl,qi,qI⟩
    clear oL oC y9 yX oI ox ci fi qA qs sY sU qz qp
    replace HZ:=ab hz
    replace aV:=ab (ax hg (aa aV) (by omega))
    replace bF:=ab (ax hg (aa bF) (by omega))
    replace aZ:=ab (ax hg (aa aZ) (by omega))
    replace HG:=ab ((aa HG).trans hg)
    clear hg hz
    obtain rfl:=qi
    clear qI
    have HH:Hid ((fun wx=>W.grownBy wx (some b)∧Zr lo wx b (RL true pt R)∧wx.heap[W.heap.size]?=some (.cells #[.int .i64 0,.string ⟨#[]⟩,.string ⟨#[]⟩,.string ⟨#[]⟩,.int .i64 0,.int .i64 0] 45 (0,0))∧wx.heap[W.heap.size+1]?=some (.cells #[.int .i64 (XU true true),.string ⟨#[]⟩,.string ⟨#[]⟩,.string ⟨#[]⟩,.int .i64 0,.int .i64 0] 45 (0,0))∧wx.heap[w1.heap.size]?=some (.cells #[.int .i64 kt,.int .i64 pt,.string tt] 38 (0,0))) w4):=⟨aa HG,aa HZ,aa aV,aa bF,aa aZ⟩
    clear HW
    go_wp2
    go_meet
    exact ⟨rfl,HH⟩
   |false =>
    obtain ⟨k1,g1⟩:=aC (j:=0) (aa bF) (.int .i64 2)
    have gg:=g1
    replace aV:=ab (ax gg (aa aV) (by omega))
    replace aZ:=ab (ax gg (aa aZ) (by omega))
    replace bF:Hid ((w2.setCell ⟨W.heap.size+1,0,none⟩ (.int .i64 2)).heap[W.heap.size+1]?=some (.cells #[.int .i64 2,.string ⟨#[]⟩,.string ⟨#[]⟩,.string ⟨#[]⟩,.int .i64 0,.int .i64 0] 45 (0,0))):=k1
    replace HZ:=ab ((aa HZ).gu gg (by omega))
    replace HG:=ab (cx (aa HG) gg (by omega))
    clear gg k1 g1
    have oM:=seen (aa aV)
    have oD:=aS (aa aV)
    have Cg:=seen (aa bF)
    have B1:=aS (aa bF)
    have oJ:=seen (aa aZ)
    have oy:=aS (aa aZ)
    go_wp2_with fail
    refine (eu (aa HZ) ⟨kt,pt,tt⟩).mono ?_
    rintro e w3 ⟨hg,hz,v3,rfl,ni,lv⟩
    clear oM oD Cg B1 oJ oy
    replace HZ:=ab hz
    replace aV:=ab (ax hg (aa aV) (by omega))
    replace bF:=ab (ax hg (aa bF) (by omega))
    replace aZ:=ab (ax hg (aa aZ) (by omega))
    replace HG:=ab ((aa HG).trans hg)
    clear hg hz
    obtain rfl:=ni
    clear lv
    obtain ⟨i3,ci,fi,bD,hi⟩:=(aa HZ).next (fun s' e=>by
      obtain ⟨s,rfl,hl⟩:=aa HS
      cases hb:aP pt s with
      |error y=>rw[show al (.ok s) (aP pt)=aP pt s from rfl,hb] at e;cases e
      |ok p =>
       rw[show al (.ok s) (aP pt)=aP pt s from rfl,hb] at e
       cases e
       have e2:p.2.ts=s.ts:=by unfold aP at hb;split at hb;cases hb;cases hb;rfl
       rw[e2]
       exact hl)
    obtain ⟨g1,z1⟩:=bD (wrap64 (i3+1)) (fun s e=>eJ (hi s e))
    have oL:=seen (aa aV)
    have oC:=aS (aa aV)
    have y9:=seen (aa bF)
    have yX:=aS (aa bF)
    have oI:=seen (aa aZ)
    have ox:=aS (aa aZ)
    replace aV:=ab (ax g1 (aa aV) (by omega))
    replace bF:=ab (ax g1 (aa bF) (by omega))
    replace aZ:=ab (ax g1 (aa aZ) (by omega))
    replace HG:=ab ((aa HG).trans g1)
    replace HZ:=ab z1
    clear g1 z1 bD hi
    have HW:=ab (mY (w3.setCell ⟨b,1,none⟩ (.int .i64 (wrap64 (i3+1)))) [⟨#[103,114,111,117,112]⟩] 9)
    replace HW:=aa HW
    simp only[World.size_setCell] at HW
    replace HW:=ab HW
    replace aV:=ab (bL (aa aV) (.cells #[.string ⟨#[103,114,111,117,112]⟩] 9))
    replace bF:=ab (bL (aa bF) (.cells #[.string ⟨#[103,114,111,117,112]⟩] 9))
    replace aZ:=ab (bL (aa aZ) (.cells #[.string ⟨#[103,114,111,117,112]⟩] 9))
    replace HZ:=ab ((aa HZ).up ((zE _ _).alloc (zD _) (.cells #[.string ⟨#[103,114,111,117,112]⟩] 9)))
    replace HG:=ab ((aa HG).trans (aO ((zE _ _).alloc (zD _) (.cells #[.string ⟨#[103,114,111,117,112]⟩] 9)) (some b)))
    have qA:=seen (aa aV)
    have qs:=aS (aa aV)
    have sY:=seen (aa bF)
    have sU:=aS (aa bF)
    have qz:=seen (aa aZ)
    have qp:=aS (aa aZ)
    go_wp2_with fail
    refine (gY (aa HZ) (aa HW)).mono ?_
    rintro e w4 ⟨hg,hz,v4,rfl,qi,qI⟩
    clear oL oC y9 yX oI ox ci fi qA qs sY sU qz qp
    replace HZ:=ab hz
    replace aV:=ab (ax hg (aa aV) (by omega))
    replace bF:=ab (ax hg (aa bF) (by omega))
    replace aZ:=ab (ax hg (aa aZ) (by omega))
    replace HG:=ab ((aa HG).trans hg)
    clear hg hz
    obtain rfl:=qi
    clear qI
    have HH:Hid ((fun wx=>W.grownBy wx (some b)∧Zr lo wx b (RL true pt R)∧wx.heap[W.heap.size]?=some (.cells #[.int .i64 0,.string ⟨#[]⟩,.string ⟨#[]⟩,.string ⟨#[]⟩,.int .i64 0,.int .i64 0] 45 (0,0))∧wx.heap[W.heap.size+1]?=some (.cells #[.int .i64 (XU true false),.string ⟨#[]⟩,.string ⟨#[]⟩,.string ⟨#[]⟩,.int .i64 0,.int .i64 0] 45 (0,0))∧wx.heap[w1.heap.size]?=some (.cells #[.int .i64 kt,.int .i64 pt,.string tt] 38 (0,0))) w4):=⟨aa HG,aa HZ,aa aV,aa bF,aa aZ⟩
    clear HW
    go_wp2
    go_meet
    exact ⟨rfl,HH⟩
 case rest =>
 obtain ⟨w20,fP⟩:∃x,x=wc:=⟨_,rfl⟩
 subst fP
 clear rQ rG K5 KN oK oA
 obtain ⟨rfl,hrel⟩:=hcut
 obtain ⟨hg,hz,Kv,hqx,DT⟩:=aa hrel
 replace HG:=ab hg
 replace HZ:=ab hz
 replace aV:=ab Kv
 replace bF:=ab hqx
 replace aZ:=ab DT
 clear hg hz Kv hqx DT
 clear hrel hp
 obtain ⟨cd,hcd⟩:∃c,XU q p=c:=⟨_,rfl⟩
 rw[hcd] at bF
 have HCD:=ab hcd
 clear hcd
 have oM:=seen (aa aV)
 have oD:=aS (aa aV)
 have Cg:=seen (aa bF)
 have B1:=aS (aa bF)
 have oJ:=seen (aa aZ)
 have oy:=aS (aa aZ)
 go_wp2_with fail
 refine (me (aa HZ) true (!q)).mono ?_
 rintro e zW ⟨hg,hz,v21,rfl,Zt,Ze⟩
 clear oM oD Cg B1 oJ oy
 replace HZ:=ab hz
 replace aV:=ab (ax hg (aa aV) (by omega))
 replace bF:=ab (ax hg (aa bF) (by omega))
 replace aZ:=ab (ax hg (aa aZ) (by omega))
 replace HG:=ab ((aa HG).trans hg)
 clear hg hz
 obtain ⟨t,rfl⟩:=Zt
 have Uj:=ab Ze
 clear Ze
 have oL:=seen (aa aV)
 have oC:=aS (aa aV)
 have y9:=seen (aa bF)
 have yX:=aS (aa bF)
 have oI:=seen (aa aZ)
 have ox:=aS (aa aZ)
 obtain ⟨k1,g1⟩:=aC (j:=2) (aa bF) (.string t)
 replace aV:=ab (ax g1 (aa aV) (by omega))
 replace aZ:=ab (ax g1 (aa aZ) (by omega))
 replace bF:Hid ((zW.setCell ⟨W.heap.size+1,2,none⟩ (.string t)).heap[W.heap.size+1]?=some (.cells #[.int .i64 cd,.string ⟨#[]⟩,.string t,.string ⟨#[]⟩,.int .i64 0,.int .i64 0] 45 (0,0))):=k1
 replace HZ:=ab ((aa HZ).gu g1 (by omega))
 replace HG:=ab (cx (aa HG) g1 (by omega))
 clear k1 g1
 have qA:=seen (aa aV)
 have qs:=aS (aa aV)
 have sY:=seen (aa bF)
 have sU:=aS (aa bF)
 have qz:=seen (aa aZ)
 have qp:=aS (aa aZ)
 go_wp2_with fail
 refine (Be (aa HZ) ⟨cd,⟨#[]⟩,t,⟨#[]⟩,0,0⟩).mono ?_
 rintro e LY ⟨hg,hz,v22,rfl,Zs,Zc⟩
 clear oL oC y9 yX oI ox qA qs sY sU qz qp
 replace HZ:=ab hz
 replace aV:=ab (ax hg (aa aV) (by omega))
 replace bF:=ab (ax hg (aa bF) (by omega))
 replace aZ:=ab (ax hg (aa aZ) (by omega))
 replace HG:=ab ((aa HG).trans hg)
 clear hg hz
 obtain ⟨⟨c7,k7,t7,n7,m7,o7⟩,rfl⟩:=Zs
 have WN:=ab Zc
 clear Zc
 unfold Fd.val Fd.arr
 simp only
 have e7:=aal (x:=t) (aa l9) (aa pB) (by rw[aa jx];exact aa Uj)
 rw[aa jx,aa HPP,aa HCD] at e7
 have N6:=aa WN
 replace HZ:=aa HZ
 rw[e7] at N6 HZ
 replace HZ:=ab HZ
 replace WN:=ab N6
 clear e7 N6 Uj l9 pB jx HPP HCD
 have Gy:=seen (aa aV)
 have Gk:=aS (aa aV)
 have Gv:=seen (aa bF)
 have Gf:=aS (aa bF)
 have Ei:=seen (aa aZ)
 have D7:=aS (aa aZ)
 obtain ⟨t1,t2,t3⟩:=x7 (aa HG) (aa HZ) cB.2 AQ (aa aV) (.int .i64 c7) (.string k7) (.string t7) (.string n7) (.int .i64 m7) (.int .i64 o7)
 have T1:=ab t1
 have T2:=ab t2
 have T3:=ab t3
 clear t1 t2 t3
 go_wp2
 refine bodyPost_ret (results_cell_row rfl _ _ (W.heap.size) 45 #[.int .i64 c7,.string k7,.string t7,.string n7,.int .i64 m7,.int .i64 o7] (0,0) _ rfl (aa T1) Tryz.underlying45 rfl kp) rfl ?_
 exact ⟨aa T2,aa T3,_,rfl,⟨⟨c7,k7,t7,n7,m7,o7⟩,rfl⟩,fun a s e=>aa WN a s e⟩
def ET (en:Bool):Int:=if en=true then -2147483648 else 1
def F8 (en:Bool):Int:=if en=true then 2147483647 else 536870911
def Td:ByteArray:=⟨#[116,111]⟩
def Ke:ByteArray:=⟨#[109,97,120]⟩
noncomputable def gE (en:Bool) (s:ay):Except (Int×Int) ((Int×Int)×ay):=kR (ET en) (F8 en) en s
noncomputable def jF (en:Bool) (s:ay):Except (Int×Int) (Int×ay):=cY (ET en) (F8 en) en s.begun
theorem Ee (en:Bool) (lo:Int) (h:ET en≤lo):(en=true∧-2147483648≤lo∧F8 en=2147483647)∨(en=false∧1≤lo∧F8 en=536870911):=by
 unfold ET F8 at *
 cases en with
 |true=>exact .inl ⟨rfl,h,rfl⟩
 |false=>exact .inr ⟨rfl,h,rfl⟩
theorem zj {en:Bool}{s s1:ay}{p:Int×Tk} (h:cE en s=.ok (p,s1)):ET en≤p.1:=by
 obtain ⟨h1,h2⟩:=Lh h
 unfold ET
 cases en with
 |true=>exact h1 rfl
 |false=>exact h2 rfl
theorem EB {en:Bool}{s:ay} (h:s.bg=false):cY (ET en) (F8 en) en s=Lw (cE en s):=by
 rw[EA h (ET en) (F8 en) en (Ee en _ (Int.le_refl _))]
 cases hb:cE en s with
 |error y=>rfl
 |ok p =>
  obtain ⟨p,s1⟩:=p
  rw[aL]
  have:=zj hb
  dsimp only
  rw[if_neg (by omega)]
theorem Io {en:Bool}{s:ay} (hg:Gd s):jF en s=if (en&&aJ s.here 4 ⟨#[45]⟩)=true then bO (aP s.here.spot s) (fun _ s1=>Lw (cE en s1)) else bO (Lw (cE en s)) (fun n s1=>bO (aP s.here.spot s1) (fun _ s2=>.ok (n,s2))):=by
 unfold jF
 rw[J9 hg,EB hg.bg]
 by_cases hq:(en&&aJ s.here 4 ⟨#[45]⟩)=true
 ·rw[if_pos hq,if_pos hq]
  cases hb:aP s.here.spot s with
  |error y=>rfl
  |ok p =>
   rw[aL,aL]
   refine EB ?_
   unfold aP at hb
   split at hb
   ·cases hb
   ·cases hb;exact hg.bg
 ·rw[if_neg hq,if_neg hq]
theorem PL (R:PX) (pt:Int):aT (al R (nA false pt))=R:=by
 cases R with
 |error y=>rfl
 |ok s=>rfl
theorem BB {en:Bool}{s s1:ay}{n:Int}{t:Tk} (h:cE en s=.ok ((n,t),s1)):t.kind=2∧((en&&aJ s.here 4 ⟨#[45]⟩)=false→t=s.here):=by
 unfold cE jc at h
 have key:∀(m:Bool) (u:ay) (p:(Int×Tk)×ay),nY m u=.ok p→p.1.2=u.here∧u.here.kind=2:=by
  intro m u p hp
  unfold nY at hp
  split at hp
  ·split at hp
   ·split at hp
    ·cases hp
    ·cases hp;exact ⟨rfl,by assumption⟩
   ·cases hp
  ·cases hp
 obtain ⟨r,hr⟩:∃r,r=(if (en&&aJ s.here 4 ⟨#[45]⟩)=true then nY true s.nx else nY false s):=⟨_,rfl⟩
 rw[←hr] at h
 cases r with
 |error y=>cases h
 |ok p =>
  rw[aL] at h
  have hp:p.1=(n,t):=by
   split at h
   ·cases h
   ·injection h with h
    exact congrArg Prod.fst h
  split at hr
  ·rename_i hq
   obtain ⟨e1,e2⟩:=key _ _ _ hr.symm
   rw[hp] at e1
   exact ⟨by rw[show t=s.nx.here from e1];exact e2,fun hf=>by rw[hf] at hq;cases hq⟩
  ·obtain ⟨e1,e2⟩:=key _ _ _ hr.symm
   rw[hp] at e1
   exact ⟨by rw[show t=s.here from e1];exact e2,fun _=>e1⟩
theorem UM {en:Bool}{R:PX}{kt pt:Int}{tt:ByteArray}{n:Int}{ku pu:Int}{tu:ByteArray} (hg:lq R) (hp:EF R ⟨kt,pt,tt⟩)
  (hv:∀a s,al (aT (al R (nA (en&&fU R 4 ⟨#[45]⟩) pt))) (cE en)=.ok (a,s)→a=(n,(⟨ku,pu,tu⟩:Tk))) :
  aT (al (aT (al (aT (al R (nA (en&&fU R 4 ⟨#[45]⟩) pt))) (cE en))) (nA (pu==pt&&ku==kt) pt))=aT (al R (jF en))∧∀a s,al R (jF en)=.ok (a,s)→a=n∧ET en≤n:=by
 match R,hg,hp,hv with
 |.error y,_,_,_=>exact ⟨rfl,fun _ _ e=>(by cases e)⟩
 |.ok s,hg,hp,hv =>
  obtain ⟨hk,ht,EV⟩:=hp
  have ht:pt=s.here.spot:=ht
  subst ht
  rw[show fU (.ok s) 4 ⟨#[45]⟩=aJ s.here 4 ⟨#[45]⟩ from rfl] at hv ⊢
  rw[show al (.ok s) (jF en)=jF en s from rfl,Io hg]
  by_cases hq:(en&&aJ s.here 4 ⟨#[45]⟩)=true
  ·rw[hq] at hv ⊢
   rw[if_pos rfl]
   rw[show al (.ok s) (nA true s.here.spot)=aP s.here.spot s from rfl] at hv ⊢
   cases hb:aP s.here.spot s with
   |error y=>exact ⟨rfl,fun _ _ e=>(by cases e)⟩
   |ok p =>
    rw[hb] at hv
    rw[aL]
    rw[show al (aT (.ok p)) (cE en)=cE en p.2 from rfl] at hv ⊢
    cases KF:cE en p.2 with
    |error y=>exact ⟨rfl,fun _ _ e=>(by cases e)⟩
    |ok q =>
     obtain ⟨a,s2⟩:=q
     obtain rfl:=hv a s2 KF
     have LD:kt=4:=by
      rw[Bool.and_eq_true] at hq
      have:=hq.2
      unfold aJ at this
      rw[Bool.and_eq_true] at this
      rw[show kt=s.here.kind from hk]
      simpa using this.1
     have hku:ku=2:=(BB KF).1
     have e0:(pu==s.here.spot&&ku==kt)=false:=by rw[LD,hku,show ((2:Int)==4)=false from rfl,Bool.and_false]
     rw[e0,PL]
     have:=zj KF
     exact ⟨rfl,fun _ _ e=>(by cases e;exact ⟨rfl,this⟩)⟩
  ·have lG:(en&&aJ s.here 4 ⟨#[45]⟩)=false:=by simpa using hq
   rw[lG] at hv ⊢
   rw[if_neg Bool.false_ne_true]
   rw[show aT (al (.ok s) (nA false s.here.spot))=.ok s from rfl] at hv ⊢
   rw[show al (.ok s) (cE en)=cE en s from rfl] at hv ⊢
   cases KF:cE en s with
   |error y=>exact ⟨rfl,fun _ _ e=>(by cases e)⟩
   |ok q =>
    obtain ⟨a,s2⟩:=q
    obtain rfl:=hv a s2 KF
    obtain ⟨e1,e2⟩:=BB KF
    have e3:=e2 lG
    have hpu:pu=s.here.spot:=congrArg Tk.spot e3
    have hku:ku=kt:=by rw[show kt=s.here.kind from hk];exact congrArg Tk.kind e3
    have e0:(pu==s.here.spot&&ku==kt)=true:=by rw[hpu,hku];simp
    rw[e0]
    have:=zj KF
    show aT (aP s.here.spot s2)=aT (bO (aP s.here.spot s2) (fun _ s3=>.ok (n,s3)))∧∀a s',bO (aP s.here.spot s2) (fun _ s3=>.ok (n,s3))=.ok (a,s')→_
    cases hb:aP s.here.spot s2 with
    |error y=>exact ⟨rfl,fun _ _ e=>(by cases e)⟩
    |ok p=>exact ⟨rfl,fun _ _ e=>(by cases e;exact ⟨rfl,this⟩)⟩
theorem xj (en:Bool) (s:ay):gE en s=bO (jF en s) (fun n s1=>match bX 1 Td s1 with
  |.error e=>.error e
  |.ok (false,s2)=>.ok ((n,n),s2)
  |.ok (true,s2)=>match bX 1 Ke s2 with
   |.error e=>.error e
   |.ok (true,s3)=>.ok ((n,F8 en),s3)
   |.ok (false,s3)=>match cY n (F8 en) en s3 with
    |.error e=>.error e
    |.ok (m,s4)=>.ok ((n,m),s4)):=by
 unfold gE kR
 show _=bO (cY (ET en) (F8 en) en s.begun) _
 cases cY (ET en) (F8 en) en s.begun with
 |error y=>rfl
 |ok p=>rfl
theorem UL {en:Bool}{R:PX}{n:Int} (hg:lq (aT (al R (jF en)))) (hv:∀a s,al R (jF en)=.ok (a,s)→a=n∧ET en≤n) (hq:fU (aT (al R (jF en))) 1 Td=false):aT (al R (jF en))=aT (al R (gE en))∧∀a s,al R (gE en)=.ok (a,s)→a=(n,n):=by
 match R,hg,hv,hq with
 |.error y,_,_,_=>exact ⟨rfl,fun _ _ e=>(by cases e)⟩
 |.ok s,hg,hv,hq =>
  rw[show al (.ok s) (jF en)=jF en s from rfl] at hg hv hq ⊢
  rw[show al (.ok s) (gE en)=gE en s from rfl,xj]
  cases ha:jF en s with
  |error y=>exact ⟨rfl,fun _ _ e=>(by cases e)⟩
  |ok p =>
   obtain ⟨a,s1⟩:=p
   rw[ha] at hg hq
   obtain ⟨rfl,_⟩:=hv a s1 ha
   have lG:¬aJ s1.here 1 Td=true:=by rw[show aJ s1.here 1 Td=false from hq];decide
   have KE:s1.bg=false:=hg.bg
   rw[aL]
   dsimp only
   rw[cV KE,if_neg lG]
   exact ⟨rfl,fun _ _ e=>(by cases e;rfl)⟩
theorem UK {en:Bool}{R:PX}{n:Int}{s3:ay} (hg:Gd s3) (hr:aT (al R (jF en))=.ok s3) (hv:∀a s,al R (jF en)=.ok (a,s)→a=n∧ET en≤n) (hq:aJ s3.here 1 Td=true) (hm:aJ s3.nx.here 1 Ke=true):.ok s3.nx.nx=aT (al R (gE en))∧∀a s,al R (gE en)=.ok (a,s)→a=(n,F8 en):=by
 match R,hv,hr with
 |.error y,_,hr=>cases hr
 |.ok s,hv,hr =>
  rw[show al (.ok s) (jF en)=jF en s from rfl] at hv hr
  rw[show al (.ok s) (gE en)=gE en s from rfl,xj]
  cases ha:jF en s with
  |error y=>rw[ha] at hr;cases hr
  |ok p =>
   obtain ⟨a,s1⟩:=p
   rw[ha] at hr
   obtain rfl:s1=s3:=by simpa[aT] using hr
   obtain ⟨rfl,_⟩:=hv a s1 ha
   rw[aL]
   dsimp only
   rw[cV hg.bg,if_pos hq]
   dsimp only
   rw[cV (s:=s1.nx) hg.bg,if_pos hm]
   exact ⟨rfl,fun _ _ e=>(by cases e;rfl)⟩
theorem UJ {en:Bool}{R:PX}{n m:Int}{s3:ay}{t:Tk}{sp:Int} (hg:Gd s3) (hs:t.spot=sp) (hr:aT (al R (jF en))=.ok s3) (hv:∀a s,al R (jF en)=.ok (a,s)→a=n∧ET en≤n) (hq:aJ s3.here 1 Td=true) (hm:aJ s3.nx.here 1 Ke=false) (nD:∀a s,al (.ok s3.nx) (cE en)=.ok (a,s)→a=(m,t)):(if m<n then mL 55 sp (aT (al (.ok s3.nx) (cE en))) else aT (al (.ok s3.nx) (cE en)))=aT (al R (gE en))∧∀a s,al R (gE en)=.ok (a,s)→a=(n,m):=by
 match R,hv,hr with
 |.error y,_,hr=>cases hr
 |.ok s,hv,hr =>
  rw[show al (.ok s) (jF en)=jF en s from rfl] at hv hr
  rw[show al (.ok s) (gE en)=gE en s from rfl,xj]
  cases ha:jF en s with
  |error y=>rw[ha] at hr;cases hr
  |ok p =>
   obtain ⟨a,s1⟩:=p
   rw[ha] at hr
   obtain rfl:s1=s3:=by simpa[aT] using hr
   obtain ⟨rfl,ji⟩:=hv a s1 ha
   have AS:¬aJ s1.nx.here 1 Ke=true:=by rw[hm];decide
   rw[aL]
   dsimp only
   rw[cV hg.bg,if_pos hq]
   dsimp only
   rw[cV (s:=s1.nx) hg.bg,if_neg AS]
   dsimp only
   rw[EA (s:=s1.nx) hg.bg a (F8 en) en (Ee en a ji)]
   rw[show al (.ok s1.nx) (cE en)=cE en s1.nx from rfl] at nD ⊢
   cases hb:cE en s1.nx with
   |error y=>exact ⟨by show (if _ then mL _ _ (.error y) else .error y)=.error y;split<;>rfl,fun _ _ e=>(by cases e)⟩
   |ok q =>
    obtain ⟨q,s4⟩:=q
    obtain rfl:=nD q s4 hb
    rw[aL]
    dsimp only
    by_cases hc:m<a
    ·rw[if_pos hc,if_pos hc,←hs]
     exact ⟨rfl,fun _ _ e=>(by cases e)⟩
    ·rw[if_neg hc,if_neg hc]
     exact ⟨rfl,fun _ _ e=>(by cases e;rfl)⟩
end Go.Proofs.YtjophoclfccmcaaGreatDoor

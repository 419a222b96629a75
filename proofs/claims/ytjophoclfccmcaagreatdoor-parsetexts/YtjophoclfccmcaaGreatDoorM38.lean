import Derived.Test.YtjophoclfccmcaaGreatDoorM37
set_option maxHeartbeats 4000000
set_option maxRecDepth 100000
namespace Go.Proofs.YtjophoclfccmcaaGreatDoor
open Go.RowKit
attribute [local go_sem ↓] Go.wp_at_zero Go.wp_at_succ
def nT:ByteArray:=⟨#[111,112,116,105,111,110,97,108]⟩
def oY:ByteArray:=⟨#[114,101,112,101,97,116,101,100]⟩
noncomputable def gi (s:ax):Except (Int×Int) (Fd×ax):=if aH s.here 1 nT=true then cU 2 s else if aH s.here 1 oY=true then cU 3 s else cu 0 s
def Ru (q:Bool) (pt:Int) (R:PX):PX:=if q=true then aT (al (kI (aT (al R (aN pt)))) (dp [⟨#[103,114,111,117,112]⟩])) else R
def XG (q p:Bool):Int:=if q=true then (if p=true then 3 else 2) else 1
theorem DB {t:Tk}{x:ByteArray} (h:aH t 1 x=true):t.kind=1∧t.text.toList=x.toList:=by
 unfold aH at h
 rw[Bool.and_eq_true] at h
 exact ⟨by simpa using h.1,by simpa using h.2⟩
theorem Tf {s:ax} (hg:Gd s) (c:Int) (x:ByteArray) (hv:∀a s',al (Ru true s.here.spot (.ok s)) (fun u=>ba true (lk false u))=.ok (a,s')→Value.string x=.string a):al (aT (al (Ru true s.here.spot (.ok s)) (fun u=>ba true (lk false u)))) (AQ ⟨c,⟨#[]⟩,x,⟨#[]⟩,0,0⟩)=cU c s:=by
 unfold Ru at hv ⊢
 rw[if_pos rfl] at hv ⊢
 simp only[Iw,fh,jE,seq_assoc,Pv] at hv ⊢
 simp only[al] at hv ⊢
 unfold cU
 rw[gQ hg]
 cases h1:aN s.here.spot s with
 |error y=>rfl
 |ok p1 =>
  rw[h1] at hv
  simp only[aK,FG] at hv ⊢
  have ho:([⟨#[103,114,111,117,112]⟩]:List ByteArray).any (fun x=>aH p1.2.nx.here 1 x)=aH p1.2.nx.here 1 ⟨#[103,114,111,117,112]⟩:=by simp
  rw[ho] at hv ⊢
  by_cases hq:aH p1.2.nx.here 1 ⟨#[103,114,111,117,112]⟩=true
  ·rw[if_pos hq,if_pos hq];rfl
  ·rw[if_neg hq] at hv
   rw[if_neg hq,if_neg hq]
   simp only[aK] at hv ⊢
   unfold gK
   cases h3:ba true p1.2.nx with
   |error y=>rfl
   |ok p3 =>
    have e3:x=p3.1:=by simpa using hv p3.1 p3.2 h3
    simp only[aK]
    rw[e3]
theorem aaa {R:PX}{kd pt:Int}{tt x:ByteArray} (hg:lp R) (hp:EN R ⟨kd,pt,tt⟩)
  (hv:∀a s,al (Ru (gd R 1 nT ||gd R 1 oY) pt R) (fun u=>ba true (lk (!(gd R 1 nT ||gd R 1 oY)) u))=.ok (a,s)→Value.string x=.string a) :
  al (aT (al (Ru (gd R 1 nT ||gd R 1 oY) pt R) (fun u=>ba true (lk (!(gd R 1 nT ||gd R 1 oY)) u)))) (AQ ⟨XG (gd R 1 nT ||gd R 1 oY) (tt.toList==[114,101,112,101,97,116,101,100]),⟨#[]⟩,x,⟨#[]⟩,0,0⟩)=al R gi:=by
 match R,hg,hp,hv with
 |.error y,_,_,_=>rfl
 |.ok s,hg,hp,hv =>
  have ht:pt=s.here.spot:=hp.2.1
  subst ht
  rw[show gd (.ok s) 1 nT=aH s.here 1 nT from rfl,show gd (.ok s) 1 oY=aH s.here 1 oY from rfl] at hv ⊢
  show _=gi s
  unfold gi
  by_cases ho:aH s.here 1 nT=true
  ·obtain ⟨w1,w2⟩:=DB ho
   have Rz:tt=s.here.text:=congrArg Tk.text (hp.2.2 (by rw[w1];decide))
   have eb:(tt.toList==[114,101,112,101,97,116,101,100])=false:=by rw[Rz,w2];decide +kernel
   rw[ho,Bool.true_or] at hv ⊢
   rw[eb,if_pos rfl]
   exact Tf hg 2 x hv
  ·have ho2:aH s.here 1 nT=false:=by simpa using ho
   rw[ho2,Bool.false_or] at hv ⊢
   rw[if_neg Bool.false_ne_true]
   by_cases hr:aH s.here 1 oY=true
   ·obtain ⟨w1,w2⟩:=DB hr
    have Rz:tt=s.here.text:=congrArg Tk.text (hp.2.2 (by rw[w1];decide))
    have eb:(tt.toList==[114,101,112,101,97,116,101,100])=true:=by rw[Rz,w2];decide +kernel
    rw[hr] at hv ⊢
    rw[eb,if_pos rfl]
    exact Tf hg 3 x hv
   ·have AW:aH s.here 1 oY=false:=by simpa using hr
    rw[AW] at hv ⊢
    rw[if_neg Bool.false_ne_true]
    show al (aT (ba true s.begun)) (AQ ⟨1,⟨#[]⟩,x,⟨#[]⟩,0,0⟩)=cu 0 s
    replace hv:∀a s',ba true s.begun=.ok (a,s')→Value.string x=.string a:=hv
    unfold cu gK
    cases h3:ba true s.begun with
    |error y=>rfl
    |ok p3 =>
     have e3:x=p3.1:=by simpa using hv p3.1 p3.2 h3
     rw[e3]
     rfl
theorem LQ {W:World}{lo b:Nat}{R:PX} (h:Zr lo W b R):Calls Tryz.prog 111 #[.pointer (some ⟨b,0,none⟩)] W (ZQ lo b W Fd.val U5 (al R gi)):=by
 have cC:=h.low
 have lZ:Hid (lp R):=h.2
 have HZ:=ab h
 have HG:Hid (W.grownBy W (some b)):=zI _ _
 clear h
 have Va:b<W.heap.size:=by have:=(aa HG).size;omega
 have rl:W.heap.size≤W.heap.size:=by have:=(aa HG).size;omega
 have aW:=ab (aF (W) (.cells #[.int .i64 0,.string ⟨#[]⟩,.string ⟨#[]⟩,.string ⟨#[]⟩,.int .i64 0,.int .i64 0] 45))
 replace HZ:=ab ((aa HZ).up ((zE _ _).alloc (zD _) (.cells #[.int .i64 0,.string ⟨#[]⟩,.string ⟨#[]⟩,.string ⟨#[]⟩,.int .i64 0,.int .i64 0] 45)))
 replace HG:=ab ((aa HG).trans (aM ((zE _ _).alloc (zD _) (.cells #[.int .i64 0,.string ⟨#[]⟩,.string ⟨#[]⟩,.string ⟨#[]⟩,.int .i64 0,.int .i64 0] 45)) (some b)))
 have U':b<W.heap.size+1:=by have:=(aa HG).size;simp only[zJ] at this;omega
 have NP:W.heap.size≤W.heap.size+1:=by have:=(aa HG).size;simp only[zJ] at this;omega
 have KB:W.heap.size<W.heap.size+1:=by have h:=(zA (aa aW)).1;simp only[zJ] at h;exact h
 replace aW:=ab (bL (aa aW) (.cells #[.int .i64 1,.string ⟨#[]⟩,.string ⟨#[]⟩,.string ⟨#[]⟩,.int .i64 0,.int .i64 0] 45))
 have bH:=ab (aF (W.alloc (.cells #[.int .i64 0,.string ⟨#[]⟩,.string ⟨#[]⟩,.string ⟨#[]⟩,.int .i64 0,.int .i64 0] 45)) (.cells #[.int .i64 1,.string ⟨#[]⟩,.string ⟨#[]⟩,.string ⟨#[]⟩,.int .i64 0,.int .i64 0] 45))
 replace bH:Hid (((W.alloc (.cells #[.int .i64 0,.string ⟨#[]⟩,.string ⟨#[]⟩,.string ⟨#[]⟩,.int .i64 0,.int .i64 0] 45)).alloc (.cells #[.int .i64 1,.string ⟨#[]⟩,.string ⟨#[]⟩,.string ⟨#[]⟩,.int .i64 0,.int .i64 0] 45)).heap[W.heap.size+1]?=some (.cells #[.int .i64 1,.string ⟨#[]⟩,.string ⟨#[]⟩,.string ⟨#[]⟩,.int .i64 0,.int .i64 0] 45 (0,0))):=by have h:=aa bH;simp only[zJ] at h;exact h
 replace HZ:=ab ((aa HZ).up ((zE _ _).alloc (zD _) (.cells #[.int .i64 1,.string ⟨#[]⟩,.string ⟨#[]⟩,.string ⟨#[]⟩,.int .i64 0,.int .i64 0] 45)))
 replace HG:=ab ((aa HG).trans (aM ((zE _ _).alloc (zD _) (.cells #[.int .i64 1,.string ⟨#[]⟩,.string ⟨#[]⟩,.string ⟨#[]⟩,.int .i64 0,.int .i64 0] 45)) (some b)))
 go_enter Tryz.func111,Tryz.ntmps111
 have qv:=seen (aa aW)
 have qi:=frzn (aa aW)
 have GD:=seen (aa bH)
 have Gm:=frzn (aa bH)
 go_wp2_with fail
 refine (gm (aa HZ)).mono ?_
 rintro e w1 ⟨⟨kt,pt,tt⟩,rfl,hb,hp⟩
 clear qv qi GD Gm
 have po:=ab hp
 replace HZ:=ab ((aa HZ).up hb)
 have hg:=aM hb (some b)
 replace aW:=ab (aw hg (aa aW) (by omega))
 replace bH:=ab (aw hg (aa bH) (by omega))
 replace HG:=ab ((aa HG).trans hg)
 clear hb hp hg
 unfold Tk.val
 have NN:b<w1.heap.size:=by have:=(aa HG).size;omega
 have Ry:W.heap.size≤w1.heap.size:=by have:=(aa HG).size;omega
 have D4:W.heap.size<w1.heap.size:=by have h:=(zA (aa aW)).1;exact h
 have ade:W.heap.size+1<w1.heap.size:=by have h:=(zA (aa bH)).1;exact h
 replace aW:=ab (bL (aa aW) (.cells #[.int .i64 kt,.int .i64 pt,.string tt] 38))
 replace bH:=ab (bL (aa bH) (.cells #[.int .i64 kt,.int .i64 pt,.string tt] 38))
 have aZ:=ab (aF (w1) (.cells #[.int .i64 kt,.int .i64 pt,.string tt] 38))
 replace HZ:=ab ((aa HZ).up ((zE _ _).alloc (zD _) (.cells #[.int .i64 kt,.int .i64 pt,.string tt] 38)))
 replace HG:=ab ((aa HG).trans (aM ((zE _ _).alloc (zD _) (.cells #[.int .i64 kt,.int .i64 pt,.string tt] 38)) (some b)))
 have qu:=seen (aa aW)
 have qh:=frzn (aa aW)
 have GC:=seen (aa bH)
 have Gl:=frzn (aa bH)
 have lV:=seen (aa aZ)
 have lR:=frzn (aa aZ)
 go_upto_region 4 with fail
 go_cut [14] (fun v14 wx=>v14=.bool (gd R 1 nT ||gd R 1 oY)∧Hid (Below (w1.alloc (.cells #[.int .i64 kt,.int .i64 pt,.string tt] 38)).heap.size (w1.alloc (.cells #[.int .i64 kt,.int .i64 pt,.string tt] 38)) wx))
 case first =>
  go_wp2_with fail
  refine (iw (aa HZ) 1 (by decide) nT).mono ?_
  rintro e w0 ⟨rfl,hb⟩
  have HB:=ab hb
  have HZ0:=ab ((aa HZ).up hb)
  clear hb
  obtain ⟨o,ho⟩:∃o,gd R 1 nT=o:=⟨_,rfl⟩
  rw[ho]
  have HO:=ab ho
  clear ho
  cases o with
  |true =>
   go_wp2
   go_meet
   exact ⟨by rw[aa HO];rfl,HB⟩
  |false =>
   go_wp2_with fail
   refine (iw (aa HZ0) 1 (by decide) oY).mono ?_
   rintro e w9 ⟨rfl,hb⟩
   have iJ:Hid (Below (w1.alloc (.cells #[.int .i64 kt,.int .i64 pt,.string tt] 38)).heap.size (w1.alloc (.cells #[.int .i64 kt,.int .i64 pt,.string tt] 38)) w9):=(aa HB).trans (hb.mono (aa HB).size)
   clear hb
   go_wp2
   go_meet
   exact ⟨by rw[aa HO,Bool.false_or],iJ⟩
 case rest =>
 obtain ⟨w2,fV⟩:∃x,x=wc:=⟨_,rfl⟩
 subst fV
 obtain ⟨rfl,hb⟩:=hcut
 replace HZ:=ab ((aa HZ).up (aa hb))
 have hg:=aM (aa hb) (some b)
 clear qu qh GC Gl lV lR
 replace aW:=ab (aw hg (aa aW) (by omega))
 replace bH:=ab (aw hg (aa bH) (by omega))
 replace aZ:=ab (aw hg (aa aZ) (by omega))
 replace HG:=ab ((aa HG).trans hg)
 clear hg hb
 obtain ⟨q,hq⟩:∃q,(gd R 1 nT ||gd R 1 oY)=q:=⟨_,rfl⟩
 rw[hq]
 have jw:=ab hq
 clear hq
 obtain ⟨p,hp⟩:∃p,(tt.toList==[114,101,112,101,97,116,101,100])=p:=⟨_,rfl⟩
 have HPP:=ab hp
 have rI:=seen (aa aW)
 have ry:=frzn (aa aW)
 have K6:=seen (aa bH)
 have KO:=frzn (aa bH)
 have oF:=seen (aa aZ)
 have ou:=frzn (aa aZ)
 go_upto_if 14 with fail
 go_cut [5] (fun v5 wx=>v5=.bool (!q)∧Hid (W.grownBy wx (some b)∧Zr lo wx b (Ru q pt R)∧wx.heap[W.heap.size]?=some (.cells #[.int .i64 0,.string ⟨#[]⟩,.string ⟨#[]⟩,.string ⟨#[]⟩,.int .i64 0,.int .i64 0] 45 (0,0))∧wx.heap[W.heap.size+1]?=some (.cells #[.int .i64 (XG q p),.string ⟨#[]⟩,.string ⟨#[]⟩,.string ⟨#[]⟩,.int .i64 0,.int .i64 0] 45 (0,0))∧wx.heap[w1.heap.size]?=some (.cells #[.int .i64 kt,.int .i64 pt,.string tt] 38 (0,0))))
 case first =>
  cases q with
  |false =>
   have HH:Hid ((fun wx=>W.grownBy wx (some b)∧Zr lo wx b (Ru false pt R)∧wx.heap[W.heap.size]?=some (.cells #[.int .i64 0,.string ⟨#[]⟩,.string ⟨#[]⟩,.string ⟨#[]⟩,.int .i64 0,.int .i64 0] 45 (0,0))∧wx.heap[W.heap.size+1]?=some (.cells #[.int .i64 (XG false p),.string ⟨#[]⟩,.string ⟨#[]⟩,.string ⟨#[]⟩,.int .i64 0,.int .i64 0] 45 (0,0))∧wx.heap[w1.heap.size]?=some (.cells #[.int .i64 kt,.int .i64 pt,.string tt] 38 (0,0))) (w2)):=⟨aa HG,aa HZ,aa aW,aa bH,aa aZ⟩
   go_wp2
   go_meet
   exact ⟨rfl,HH⟩
  |true =>
   have hs:∃s,R=.ok s∧0<s.ts.length:=by
    have hq:=aa jw
    match R,aa lZ,hq with
    |.ok s,rU,hq =>
     refine ⟨s,rfl,?_⟩
     rcases Bool.or_eq_true_iff.1 hq with h1|h1
     ·exact eT rU.en h1 (by decide)
     ·exact eT rU.en h1 (by decide)
    |.error y,_,hq=>cases hq
   have HS:=ab hs
   clear hs
   cases p with
   |true =>
    obtain ⟨k1,g1⟩:=aC (j:=0) (aa bH) (.int .i64 2)
    obtain ⟨k2,g2⟩:=aC (j:=0) k1 (.int .i64 3)
    have gg:=(g1.trans g2)
    replace aW:=ab (aw gg (aa aW) (by omega))
    replace aZ:=ab (aw gg (aa aZ) (by omega))
    replace bH:Hid (((w2.setCell ⟨W.heap.size+1,0,none⟩ (.int .i64 2)).setCell ⟨W.heap.size+1,0,none⟩ (.int .i64 3)).heap[W.heap.size+1]?=some (.cells #[.int .i64 3,.string ⟨#[]⟩,.string ⟨#[]⟩,.string ⟨#[]⟩,.int .i64 0,.int .i64 0] 45 (0,0))):=k2
    replace HZ:=ab ((aa HZ).gA gg (by omega))
    replace HG:=ab (cy (aa HG) gg (by omega))
    clear gg k1 g1 k2 g2
    have oH:=seen (aa aW)
    have ox:=frzn (aa aW)
    have Cm:=seen (aa bH)
    have B6:=frzn (aa bH)
    have oE:=seen (aa aZ)
    have ot:=frzn (aa aZ)
    go_wp2_with fail
    refine (eB (aa HZ) ⟨kt,pt,tt⟩).mono ?_
    rintro e w3 ⟨hg,hz,v3,rfl,nc,lu⟩
    clear oH ox Cm B6 oE ot
    replace HZ:=ab hz
    replace aW:=ab (aw hg (aa aW) (by omega))
    replace bH:=ab (aw hg (aa bH) (by omega))
    replace aZ:=ab (aw hg (aa aZ) (by omega))
    replace HG:=ab ((aa HG).trans hg)
    clear hg hz
    obtain rfl:=nc
    clear lu
    obtain ⟨i3,ci,fi,bF,hi⟩:=(aa HZ).next (fun s' e=>by
      obtain ⟨s,rfl,hl⟩:=aa HS
      cases hb:aN pt s with
      |error y=>rw[show al (.ok s) (aN pt)=aN pt s from rfl,hb] at e;cases e
      |ok p =>
       rw[show al (.ok s) (aN pt)=aN pt s from rfl,hb] at e
       cases e
       have e2:p.2.ts=s.ts:=by unfold aN at hb;split at hb;cases hb;cases hb;rfl
       rw[e2]
       exact hl)
    obtain ⟨g1,z1⟩:=bF (wrap64 (i3+1)) (fun s e=>eN (hi s e))
    have oG:=seen (aa aW)
    have ow:=frzn (aa aW)
    have zc:=seen (aa bH)
    have y7:=frzn (aa bH)
    have oD:=seen (aa aZ)
    have oq:=frzn (aa aZ)
    replace aW:=ab (aw g1 (aa aW) (by omega))
    replace bH:=ab (aw g1 (aa bH) (by omega))
    replace aZ:=ab (aw g1 (aa aZ) (by omega))
    replace HG:=ab ((aa HG).trans g1)
    replace HZ:=ab z1
    clear g1 z1 bF hi
    have HW:=ab (mV (w3.setCell ⟨b,1,none⟩ (.int .i64 (wrap64 (i3+1)))) [⟨#[103,114,111,117,112]⟩] 9)
    replace HW:=aa HW
    simp only[World.size_setCell] at HW
    replace HW:=ab HW
    replace aW:=ab (bL (aa aW) (.cells #[.string ⟨#[103,114,111,117,112]⟩] 9))
    replace bH:=ab (bL (aa bH) (.cells #[.string ⟨#[103,114,111,117,112]⟩] 9))
    replace aZ:=ab (bL (aa aZ) (.cells #[.string ⟨#[103,114,111,117,112]⟩] 9))
    replace HZ:=ab ((aa HZ).up ((zE _ _).alloc (zD _) (.cells #[.string ⟨#[103,114,111,117,112]⟩] 9)))
    replace HG:=ab ((aa HG).trans (aM ((zE _ _).alloc (zD _) (.cells #[.string ⟨#[103,114,111,117,112]⟩] 9)) (some b)))
    have qt:=seen (aa aW)
    have qd:=frzn (aa aW)
    have sU:=seen (aa bH)
    have sQ:=frzn (aa bH)
    have qs:=seen (aa aZ)
    have qc:=frzn (aa aZ)
    go_wp2_with fail
    refine (hJ (aa HZ) (aa HW)).mono ?_
    rintro e w4 ⟨hg,hz,v4,rfl,p9,qE⟩
    clear oG ow zc y7 oD oq ci fi qt qd sU sQ qs qc
    replace HZ:=ab hz
    replace aW:=ab (aw hg (aa aW) (by omega))
    replace bH:=ab (aw hg (aa bH) (by omega))
    replace aZ:=ab (aw hg (aa aZ) (by omega))
    replace HG:=ab ((aa HG).trans hg)
    clear hg hz
    obtain rfl:=p9
    clear qE
    have HH:Hid ((fun wx=>W.grownBy wx (some b)∧Zr lo wx b (Ru true pt R)∧wx.heap[W.heap.size]?=some (.cells #[.int .i64 0,.string ⟨#[]⟩,.string ⟨#[]⟩,.string ⟨#[]⟩,.int .i64 0,.int .i64 0] 45 (0,0))∧wx.heap[W.heap.size+1]?=some (.cells #[.int .i64 (XG true true),.string ⟨#[]⟩,.string ⟨#[]⟩,.string ⟨#[]⟩,.int .i64 0,.int .i64 0] 45 (0,0))∧wx.heap[w1.heap.size]?=some (.cells #[.int .i64 kt,.int .i64 pt,.string tt] 38 (0,0))) w4):=⟨aa HG,aa HZ,aa aW,aa bH,aa aZ⟩
    clear HW
    go_wp2
    go_meet
    exact ⟨rfl,HH⟩
   |false =>
    obtain ⟨k1,g1⟩:=aC (j:=0) (aa bH) (.int .i64 2)
    have gg:=g1
    replace aW:=ab (aw gg (aa aW) (by omega))
    replace aZ:=ab (aw gg (aa aZ) (by omega))
    replace bH:Hid ((w2.setCell ⟨W.heap.size+1,0,none⟩ (.int .i64 2)).heap[W.heap.size+1]?=some (.cells #[.int .i64 2,.string ⟨#[]⟩,.string ⟨#[]⟩,.string ⟨#[]⟩,.int .i64 0,.int .i64 0] 45 (0,0))):=k1
    replace HZ:=ab ((aa HZ).gA gg (by omega))
    replace HG:=ab (cy (aa HG) gg (by omega))
    clear gg k1 g1
    have oH:=seen (aa aW)
    have ox:=frzn (aa aW)
    have Cm:=seen (aa bH)
    have B6:=frzn (aa bH)
    have oE:=seen (aa aZ)
    have ot:=frzn (aa aZ)
    go_wp2_with fail
    refine (eB (aa HZ) ⟨kt,pt,tt⟩).mono ?_
    rintro e w3 ⟨hg,hz,v3,rfl,nc,lu⟩
    clear oH ox Cm B6 oE ot
    replace HZ:=ab hz
    replace aW:=ab (aw hg (aa aW) (by omega))
    replace bH:=ab (aw hg (aa bH) (by omega))
    replace aZ:=ab (aw hg (aa aZ) (by omega))
    replace HG:=ab ((aa HG).trans hg)
    clear hg hz
    obtain rfl:=nc
    clear lu
    obtain ⟨i3,ci,fi,bF,hi⟩:=(aa HZ).next (fun s' e=>by
      obtain ⟨s,rfl,hl⟩:=aa HS
      cases hb:aN pt s with
      |error y=>rw[show al (.ok s) (aN pt)=aN pt s from rfl,hb] at e;cases e
      |ok p =>
       rw[show al (.ok s) (aN pt)=aN pt s from rfl,hb] at e
       cases e
       have e2:p.2.ts=s.ts:=by unfold aN at hb;split at hb;cases hb;cases hb;rfl
       rw[e2]
       exact hl)
    obtain ⟨g1,z1⟩:=bF (wrap64 (i3+1)) (fun s e=>eN (hi s e))
    have oG:=seen (aa aW)
    have ow:=frzn (aa aW)
    have zc:=seen (aa bH)
    have y7:=frzn (aa bH)
    have oD:=seen (aa aZ)
    have oq:=frzn (aa aZ)
    replace aW:=ab (aw g1 (aa aW) (by omega))
    replace bH:=ab (aw g1 (aa bH) (by omega))
    replace aZ:=ab (aw g1 (aa aZ) (by omega))
    replace HG:=ab ((aa HG).trans g1)
    replace HZ:=ab z1
    clear g1 z1 bF hi
    have HW:=ab (mV (w3.setCell ⟨b,1,none⟩ (.int .i64 (wrap64 (i3+1)))) [⟨#[103,114,111,117,112]⟩] 9)
    replace HW:=aa HW
    simp only[World.size_setCell] at HW
    replace HW:=ab HW
    replace aW:=ab (bL (aa aW) (.cells #[.string ⟨#[103,114,111,117,112]⟩] 9))
    replace bH:=ab (bL (aa bH) (.cells #[.string ⟨#[103,114,111,117,112]⟩] 9))
    replace aZ:=ab (bL (aa aZ) (.cells #[.string ⟨#[103,114,111,117,112]⟩] 9))
    replace HZ:=ab ((aa HZ).up ((zE _ _).alloc (zD _) (.cells #[.string ⟨#[103,114,111,117,112]⟩] 9)))
    replace HG:=ab ((aa HG).trans (aM ((zE _ _).alloc (zD _) (.cells #[.string ⟨#[103,114,111,117,112]⟩] 9)) (some b)))
    have qt:=seen (aa aW)
    have qd:=frzn (aa aW)
    have sU:=seen (aa bH)
    have sQ:=frzn (aa bH)
    have qs:=seen (aa aZ)
    have qc:=frzn (aa aZ)
    go_wp2_with fail
    refine (hJ (aa HZ) (aa HW)).mono ?_
    rintro e w4 ⟨hg,hz,v4,rfl,p9,qE⟩
    clear oG ow zc y7 oD oq ci fi qt qd sU sQ qs qc
    replace HZ:=ab hz
    replace aW:=ab (aw hg (aa aW) (by omega))
    replace bH:=ab (aw hg (aa bH) (by omega))
    replace aZ:=ab (aw hg (aa aZ) (by omega))
    replace HG:=ab ((aa HG).trans hg)
    clear hg hz
    obtain rfl:=p9
    clear qE
    have HH:Hid ((fun wx=>W.grownBy wx (some b)∧Zr lo wx b (Ru true pt R)∧wx.heap[W.heap.size]?=some (.cells #[.int .i64 0,.string ⟨#[]⟩,.string ⟨#[]⟩,.string ⟨#[]⟩,.int .i64 0,.int .i64 0] 45 (0,0))∧wx.heap[W.heap.size+1]?=some (.cells #[.int .i64 (XG true false),.string ⟨#[]⟩,.string ⟨#[]⟩,.string ⟨#[]⟩,.int .i64 0,.int .i64 0] 45 (0,0))∧wx.heap[w1.heap.size]?=some (.cells #[.int .i64 kt,.int .i64 pt,.string tt] 38 (0,0))) w4):=⟨aa HG,aa HZ,aa aW,aa bH,aa aZ⟩
    clear HW
    go_wp2
    go_meet
    exact ⟨rfl,HH⟩
 case rest =>
 obtain ⟨w20,fV⟩:∃x,x=wc:=⟨_,rfl⟩
 subst fV
 clear rI ry K6 KO oF ou
 obtain ⟨rfl,hrel⟩:=hcut
 obtain ⟨hg,hz,Kx,hqx,DZ⟩:=aa hrel
 replace HG:=ab hg
 replace HZ:=ab hz
 replace aW:=ab Kx
 replace bH:=ab hqx
 replace aZ:=ab DZ
 clear hg hz Kx hqx DZ
 clear hrel hp
 obtain ⟨cd,hcd⟩:∃c,XG q p=c:=⟨_,rfl⟩
 rw[hcd] at bH
 have HCD:=ab hcd
 clear hcd
 have oH:=seen (aa aW)
 have ox:=frzn (aa aW)
 have Cm:=seen (aa bH)
 have B6:=frzn (aa bH)
 have oE:=seen (aa aZ)
 have ot:=frzn (aa aZ)
 go_wp2_with fail
 refine (l7 (aa HZ) true (!q)).mono ?_
 rintro e zY ⟨hg,hz,v21,rfl,Zc,YU⟩
 clear oH ox Cm B6 oE ot
 replace HZ:=ab hz
 replace aW:=ab (aw hg (aa aW) (by omega))
 replace bH:=ab (aw hg (aa bH) (by omega))
 replace aZ:=ab (aw hg (aa aZ) (by omega))
 replace HG:=ab ((aa HG).trans hg)
 clear hg hz
 obtain ⟨t,rfl⟩:=Zc
 have T9:=ab YU
 clear YU
 have oG:=seen (aa aW)
 have ow:=frzn (aa aW)
 have zc:=seen (aa bH)
 have y7:=frzn (aa bH)
 have oD:=seen (aa aZ)
 have oq:=frzn (aa aZ)
 obtain ⟨k1,g1⟩:=aC (j:=2) (aa bH) (.string t)
 replace aW:=ab (aw g1 (aa aW) (by omega))
 replace aZ:=ab (aw g1 (aa aZ) (by omega))
 replace bH:Hid ((zY.setCell ⟨W.heap.size+1,2,none⟩ (.string t)).heap[W.heap.size+1]?=some (.cells #[.int .i64 cd,.string ⟨#[]⟩,.string t,.string ⟨#[]⟩,.int .i64 0,.int .i64 0] 45 (0,0))):=k1
 replace HZ:=ab ((aa HZ).gA g1 (by omega))
 replace HG:=ab (cy (aa HG) g1 (by omega))
 clear k1 g1
 have qt:=seen (aa aW)
 have qd:=frzn (aa aW)
 have sU:=seen (aa bH)
 have sQ:=frzn (aa bH)
 have qs:=seen (aa aZ)
 have qc:=frzn (aa aZ)
 go_wp2_with fail
 refine (Bo (aa HZ) ⟨cd,⟨#[]⟩,t,⟨#[]⟩,0,0⟩).mono ?_
 rintro e JG ⟨hg,hz,v22,rfl,Zb,YT⟩
 clear oG ow zc y7 oD oq qt qd sU sQ qs qc
 replace HZ:=ab hz
 replace aW:=ab (aw hg (aa aW) (by omega))
 replace bH:=ab (aw hg (aa bH) (by omega))
 replace aZ:=ab (aw hg (aa aZ) (by omega))
 replace HG:=ab ((aa HG).trans hg)
 clear hg hz
 obtain ⟨⟨c7,k7,t7,n7,m7,o7⟩,rfl⟩:=Zb
 have Wq:=ab YT
 clear YT
 unfold Fd.val Fd.arr
 simp only
 have e7:=aaa (x:=t) (aa lZ) (aa po) (by rw[aa jw];exact aa T9)
 rw[aa jw,aa HPP,aa HCD] at e7
 have NR:=aa Wq
 replace HZ:=aa HZ
 rw[e7] at NR HZ
 replace HZ:=ab HZ
 replace Wq:=ab NR
 clear e7 NR T9 lZ po jw HPP HCD
 have GF:=seen (aa aW)
 have Gq:=frzn (aa aW)
 have GB:=seen (aa bH)
 have Gk:=frzn (aa bH)
 have Eu:=seen (aa aZ)
 have Ed:=frzn (aa aZ)
 obtain ⟨t1,t2,t3⟩:=yh (aa HG) (aa HZ) cC.2 rl (aa aW) (.int .i64 c7) (.string k7) (.string t7) (.string n7) (.int .i64 m7) (.int .i64 o7)
 have T1:=ab t1
 have T2:=ab t2
 have T3:=ab t3
 clear t1 t2 t3
 go_wp2
 refine bodyPost_ret (results_cell_row rfl _ _ (W.heap.size) 45 #[.int .i64 c7,.string k7,.string t7,.string n7,.int .i64 m7,.int .i64 o7] (0,0) _ rfl (aa T1) Tryz.underlying45 rfl ko) rfl ?_
 exact ⟨aa T2,aa T3,_,rfl,⟨⟨c7,k7,t7,n7,m7,o7⟩,rfl⟩,fun a s e=>aa Wq a s e⟩
def E3 (en:Bool):Int:=if en=true then -2147483648 else 1
def Gc (en:Bool):Int:=if en=true then 2147483647 else 536870911
def S7:ByteArray:=⟨#[116,111]⟩
def Kh:ByteArray:=⟨#[109,97,120]⟩
noncomputable def gH (en:Bool) (s:ax):Except (Int×Int) ((Int×Int)×ax):=kQ (E3 en) (Gc en) en s
noncomputable def jG (en:Bool) (s:ax):Except (Int×Int) (Int×ax):=cZ (E3 en) (Gc en) en s.begun
theorem Eo (en:Bool) (lo:Int) (h:E3 en≤lo):(en=true∧-2147483648≤lo∧Gc en=2147483647)∨(en=false∧1≤lo∧Gc en=536870911):=by
 unfold E3 Gc at *
 cases en with
 |true=>exact .inl ⟨rfl,h,rfl⟩
 |false=>exact .inr ⟨rfl,h,rfl⟩
theorem zn {en:Bool}{s s1:ax}{p:Int×Tk} (h:cD en s=.ok (p,s1)):E3 en≤p.1:=by
 obtain ⟨h1,h2⟩:=Li h
 unfold E3
 cases en with
 |true=>exact h1 rfl
 |false=>exact h2 rfl
theorem EJ {en:Bool}{s:ax} (h:s.bg=false):cZ (E3 en) (Gc en) en s=Lv (cD en s):=by
 rw[EH h (E3 en) (Gc en) en (Eo en _ (Int.le_refl _))]
 cases hb:cD en s with
 |error y=>rfl
 |ok p =>
  obtain ⟨p,s1⟩:=p
  rw[aK]
  have:=zn hb
  dsimp only
  rw[if_neg (by omega)]
theorem Iq {en:Bool}{s:ax} (hg:Gd s):jG en s=if (en&&aH s.here 4 ⟨#[45]⟩)=true then bQ (aN s.here.spot s) (fun _ s1=>Lv (cD en s1)) else bQ (Lv (cD en s)) (fun n s1=>bQ (aN s.here.spot s1) (fun _ s2=>.ok (n,s2))):=by
 unfold jG
 rw[Kb hg,EJ hg.bg]
 by_cases hq:(en&&aH s.here 4 ⟨#[45]⟩)=true
 ·rw[if_pos hq,if_pos hq]
  cases hb:aN s.here.spot s with
  |error y=>rfl
  |ok p =>
   rw[aK,aK]
   refine EJ ?_
   unfold aN at hb
   split at hb
   ·cases hb
   ·cases hb;exact hg.bg
 ·rw[if_neg hq,if_neg hq]
theorem Pt (R:PX) (pt:Int):aT (al R (ny false pt))=R:=by
 cases R with
 |error y=>rfl
 |ok s=>rfl
theorem BJ {en:Bool}{s s1:ax}{n:Int}{t:Tk} (h:cD en s=.ok ((n,t),s1)):t.kind=2∧((en&&aH s.here 4 ⟨#[45]⟩)=false→t=s.here):=by
 unfold cD jb at h
 have key:∀(m:Bool) (u:ax) (p:(Int×Tk)×ax),nW m u=.ok p→p.1.2=u.here∧u.here.kind=2:=by
  intro m u p hp
  unfold nW at hp
  split at hp
  ·split at hp
   ·split at hp
    ·cases hp
    ·cases hp;exact ⟨rfl,by assumption⟩
   ·cases hp
  ·cases hp
 obtain ⟨r,hr⟩:∃r,r=(if (en&&aH s.here 4 ⟨#[45]⟩)=true then nW true s.nx else nW false s):=⟨_,rfl⟩
 rw[←hr] at h
 cases r with
 |error y=>cases h
 |ok p =>
  rw[aK] at h
  have hp:p.1=(n,t):=by
   split at h
   ·cases h
   ·injection h with h
    exact congrArg Prod.fst h
  split at hr
  ·rename_i hq
   obtain ⟨e1,e2⟩:=key _ _ _ hr.symm
   rw[hp] at e1
   exact ⟨by rw[show t=s.nx.here from e1];exact e2,fun hf=>by rw[hf] at hq;cases hq⟩
  ·obtain ⟨e1,e2⟩:=key _ _ _ hr.symm
   rw[hp] at e1
   exact ⟨by rw[show t=s.here from e1];exact e2,fun _=>e1⟩
theorem UA {en:Bool}{R:PX}{kt pt:Int}{tt:ByteArray}{n:Int}{ku pu:Int}{tu:ByteArray} (hg:lp R) (hp:EN R ⟨kt,pt,tt⟩)
  (hv:∀a s,al (aT (al R (ny (en&&gd R 4 ⟨#[45]⟩) pt))) (cD en)=.ok (a,s)→a=(n,(⟨ku,pu,tu⟩:Tk))) :
  aT (al (aT (al (aT (al R (ny (en&&gd R 4 ⟨#[45]⟩) pt))) (cD en))) (ny (pu==pt&&ku==kt) pt))=aT (al R (jG en))∧∀a s,al R (jG en)=.ok (a,s)→a=n∧E3 en≤n:=by
 match R,hg,hp,hv with
 |.error y,_,_,_=>exact ⟨rfl,fun _ _ e=>(by cases e)⟩
 |.ok s,hg,hp,hv =>
  obtain ⟨hk,ht,E6⟩:=hp
  have ht:pt=s.here.spot:=ht
  subst ht
  rw[show gd (.ok s) 4 ⟨#[45]⟩=aH s.here 4 ⟨#[45]⟩ from rfl] at hv ⊢
  rw[show al (.ok s) (jG en)=jG en s from rfl,Iq hg]
  by_cases hq:(en&&aH s.here 4 ⟨#[45]⟩)=true
  ·rw[hq] at hv ⊢
   rw[if_pos rfl]
   rw[show al (.ok s) (ny true s.here.spot)=aN s.here.spot s from rfl] at hv ⊢
   cases hb:aN s.here.spot s with
   |error y=>exact ⟨rfl,fun _ _ e=>(by cases e)⟩
   |ok p =>
    rw[hb] at hv
    rw[aK]
    rw[show al (aT (.ok p)) (cD en)=cD en p.2 from rfl] at hv ⊢
    cases KH:cD en p.2 with
    |error y=>exact ⟨rfl,fun _ _ e=>(by cases e)⟩
    |ok q =>
     obtain ⟨a,s2⟩:=q
     obtain rfl:=hv a s2 KH
     have LC:kt=4:=by
      rw[Bool.and_eq_true] at hq
      have:=hq.2
      unfold aH at this
      rw[Bool.and_eq_true] at this
      rw[show kt=s.here.kind from hk]
      simpa using this.1
     have hku:ku=2:=(BJ KH).1
     have e0:(pu==s.here.spot&&ku==kt)=false:=by rw[LC,hku,show ((2:Int)==4)=false from rfl,Bool.and_false]
     rw[e0,Pt]
     have:=zn KH
     exact ⟨rfl,fun _ _ e=>(by cases e;exact ⟨rfl,this⟩)⟩
  ·have lF:(en&&aH s.here 4 ⟨#[45]⟩)=false:=by simpa using hq
   rw[lF] at hv ⊢
   rw[if_neg Bool.false_ne_true]
   rw[show aT (al (.ok s) (ny false s.here.spot))=.ok s from rfl] at hv ⊢
   rw[show al (.ok s) (cD en)=cD en s from rfl] at hv ⊢
   cases KH:cD en s with
   |error y=>exact ⟨rfl,fun _ _ e=>(by cases e)⟩
   |ok q =>
    obtain ⟨a,s2⟩:=q
    obtain rfl:=hv a s2 KH
    obtain ⟨e1,e2⟩:=BJ KH
    have e3:=e2 lF
    have hpu:pu=s.here.spot:=congrArg Tk.spot e3
    have hku:ku=kt:=by rw[show kt=s.here.kind from hk];exact congrArg Tk.kind e3
    have e0:(pu==s.here.spot&&ku==kt)=true:=by rw[hpu,hku];simp
    rw[e0]
    have:=zn KH
    show aT (aN s.here.spot s2)=aT (bQ (aN s.here.spot s2) (fun _ s3=>.ok (n,s3)))∧∀a s',bQ (aN s.here.spot s2) (fun _ s3=>.ok (n,s3))=.ok (a,s')→_
    cases hb:aN s.here.spot s2 with
    |error y=>exact ⟨rfl,fun _ _ e=>(by cases e)⟩
    |ok p=>exact ⟨rfl,fun _ _ e=>(by cases e;exact ⟨rfl,this⟩)⟩
theorem xb (en:Bool) (s:ax):gH en s=bQ (jG en s) (fun n s1=>match bX 1 S7 s1 with
  |.error e=>.error e
  |.ok (false,s2)=>.ok ((n,n),s2)
  |.ok (true,s2)=>match bX 1 Kh s2 with
   |.error e=>.error e
   |.ok (true,s3)=>.ok ((n,Gc en),s3)
   |.ok (false,s3)=>match cZ n (Gc en) en s3 with
    |.error e=>.error e
    |.ok (m,s4)=>.ok ((n,m),s4)):=by
 unfold gH kQ
 show _=bQ (cZ (E3 en) (Gc en) en s.begun) _
 cases cZ (E3 en) (Gc en) en s.begun with
 |error y=>rfl
 |ok p=>rfl
theorem Uz {en:Bool}{R:PX}{n:Int} (hg:lp (aT (al R (jG en)))) (hv:∀a s,al R (jG en)=.ok (a,s)→a=n∧E3 en≤n) (hq:gd (aT (al R (jG en))) 1 S7=false):aT (al R (jG en))=aT (al R (gH en))∧∀a s,al R (gH en)=.ok (a,s)→a=(n,n):=by
 match R,hg,hv,hq with
 |.error y,_,_,_=>exact ⟨rfl,fun _ _ e=>(by cases e)⟩
 |.ok s,hg,hv,hq =>
  rw[show al (.ok s) (jG en)=jG en s from rfl] at hg hv hq ⊢
  rw[show al (.ok s) (gH en)=gH en s from rfl,xb]
  cases ha:jG en s with
  |error y=>exact ⟨rfl,fun _ _ e=>(by cases e)⟩
  |ok p =>
   obtain ⟨a,s1⟩:=p
   rw[ha] at hg hq
   obtain ⟨rfl,_⟩:=hv a s1 ha
   have lF:¬aH s1.here 1 S7=true:=by rw[show aH s1.here 1 S7=false from hq];decide
   have KG:s1.bg=false:=hg.bg
   rw[aK]
   dsimp only
   rw[cV KG,if_neg lF]
   exact ⟨rfl,fun _ _ e=>(by cases e;rfl)⟩
theorem Uy {en:Bool}{R:PX}{n:Int}{s3:ax} (hg:Gd s3) (hr:aT (al R (jG en))=.ok s3) (hv:∀a s,al R (jG en)=.ok (a,s)→a=n∧E3 en≤n) (hq:aH s3.here 1 S7=true) (hm:aH s3.nx.here 1 Kh=true):.ok s3.nx.nx=aT (al R (gH en))∧∀a s,al R (gH en)=.ok (a,s)→a=(n,Gc en):=by
 match R,hv,hr with
 |.error y,_,hr=>cases hr
 |.ok s,hv,hr =>
  rw[show al (.ok s) (jG en)=jG en s from rfl] at hv hr
  rw[show al (.ok s) (gH en)=gH en s from rfl,xb]
  cases ha:jG en s with
  |error y=>rw[ha] at hr;cases hr
  |ok p =>
   obtain ⟨a,s1⟩:=p
   rw[ha] at hr
   obtain rfl:s1=s3:=by simpa[aT] using hr
   obtain ⟨rfl,_⟩:=hv a s1 ha
   rw[aK]
   dsimp only
   rw[cV hg.bg,if_pos hq]
   dsimp only
   rw[cV (s:=s1.nx) hg.bg,if_pos hm]
   exact ⟨rfl,fun _ _ e=>(by cases e;rfl)⟩
theorem Ux {en:Bool}{R:PX}{n m:Int}{s3:ax}{t:Tk}{sp:Int} (hg:Gd s3) (hs:t.spot=sp) (hr:aT (al R (jG en))=.ok s3) (hv:∀a s,al R (jG en)=.ok (a,s)→a=n∧E3 en≤n) (hq:aH s3.here 1 S7=true) (hm:aH s3.nx.here 1 Kh=false) (nA:∀a s,al (.ok s3.nx) (cD en)=.ok (a,s)→a=(m,t)):(if m<n then mI 55 sp (aT (al (.ok s3.nx) (cD en))) else aT (al (.ok s3.nx) (cD en)))=aT (al R (gH en))∧∀a s,al R (gH en)=.ok (a,s)→a=(n,m):=by
 match R,hv,hr with
 |.error y,_,hr=>cases hr
 |.ok s,hv,hr =>
  rw[show al (.ok s) (jG en)=jG en s from rfl] at hv hr
  rw[show al (.ok s) (gH en)=gH en s from rfl,xb]
  cases ha:jG en s with
  |error y=>rw[ha] at hr;cases hr
  |ok p =>
   obtain ⟨a,s1⟩:=p
   rw[ha] at hr
   obtain rfl:s1=s3:=by simpa[aT] using hr
   obtain ⟨rfl,jh⟩:=hv a s1 ha
   have CL:¬aH s1.nx.here 1 Kh=true:=by rw[hm];decide
   rw[aK]
   dsimp only
   rw[cV hg.bg,if_pos hq]
   dsimp only
   rw[cV (s:=s1.nx) hg.bg,if_neg CL]
   dsimp only
   rw[EH (s:=s1.nx) hg.bg a (Gc en) en (Eo en a jh)]
   rw[show al (.ok s1.nx) (cD en)=cD en s1.nx from rfl] at nA ⊢
   cases hb:cD en s1.nx with
   |error y=>exact ⟨by show (if _ then mI _ _ (.error y) else .error y)=.error y;split<;>rfl,fun _ _ e=>(by cases e)⟩
   |ok q =>
    obtain ⟨q,s4⟩:=q
    obtain rfl:=nA q s4 hb
    rw[aK]
    dsimp only
    by_cases hc:m<a
    ·rw[if_pos hc,if_pos hc,←hs]
     exact ⟨rfl,fun _ _ e=>(by cases e)⟩
    ·rw[if_neg hc,if_neg hc]
     exact ⟨rfl,fun _ _ e=>(by cases e;rfl)⟩
end Go.Proofs.YtjophoclfccmcaaGreatDoor

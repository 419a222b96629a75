import Derived.Test.YtjophoclfccmcaaGreatDoorM35
set_option maxHeartbeats 4000000
set_option maxRecDepth 100000
namespace Go.Proofs.YtjophoclfccmcaaGreatDoor
open Go.RowKit
attribute [local go_sem ↓] Go.wp_at_zero Go.wp_at_succ
def SF (en:Bool) (n sp:Int) (R:PX):PX:=if en=false∧(n<1∨536870911<n) then mI 55 sp R else R
theorem SD {R:PX}{en:Bool}{n sp:Int}{t:Tk} (hv:∀a s,al R (jb en)=.ok (a,s)→a=(n,t)) (ht:t.spot=sp):SF en n sp (aT (al R (jb en)))=aT (al R (cD en))∧∀a s,al R (cD en)=.ok (a,s)→a=(n,t):=by
 match R,hv with
 |.error y,_=>exact ⟨by unfold SF;show (if _ then mI _ _ (.error y) else .error y)=.error y;split<;>rfl,fun _ _ e=>(by cases e)⟩
 |.ok s,hv =>
  show SF en n sp (aT (jb en s))=aT (cD en s)∧∀a s',cD en s=.ok (a,s')→a=(n,t)
  unfold cD
  cases hn:jb en s with
  |error y=>exact ⟨by unfold SF;show (if _ then mI _ _ (.error y) else .error y)=.error y;split<;>rfl,fun _ _ e=>(by cases e)⟩
  |ok p =>
   obtain ⟨a,s1⟩:=p
   obtain rfl:=hv a s1 hn
   rw[aK]
   dsimp only
   unfold SF
   by_cases hc:en=false∧(n<1∨536870911<n)
   ·rw[if_pos hc,if_pos hc,ht]
    exact ⟨rfl,fun _ _ e=>(by cases e)⟩
   ·rw[if_neg hc,if_neg hc]
    exact ⟨rfl,fun _ _ e=>(by cases e;rfl)⟩
theorem CZ {W:World}{lo b:Nat}{R:PX} (h:Zr lo W b R) (en:Bool):Calls Tryz.prog 132 #[.pointer (some ⟨b,0,none⟩),.bool en] W (ZQ lo b W Yu YG (al R (cD en))):=by
 have cC:=h.low
 have HZ:=ab h
 have HG:Hid (W.grownBy W (some b)):=zI _ _
 clear h
 have Va:b<W.heap.size:=by have:=(aa HG).size;omega
 have aW:=ab (aF (W) (.cells #[.int .i64 0,.int .i64 0,.string ⟨#[]⟩] 38))
 replace HZ:=ab ((aa HZ).up ((zE _ _).alloc (zD _) (.cells #[.int .i64 0,.int .i64 0,.string ⟨#[]⟩] 38)))
 replace HG:=ab ((aa HG).trans (aM ((zE _ _).alloc (zD _) (.cells #[.int .i64 0,.int .i64 0,.string ⟨#[]⟩] 38)) (some b)))
 go_enter Tryz.func132,Tryz.ntmps132
 obtain ⟨⟨xE,xD,xC⟩,du⟩:=dF (aa aW)
 have um:=du 0
 have uk:=du 1
 have uj:=du 2
 clear du
 go_wp2_with fail
 refine (r' (aa HZ) en).mono ?_
 rintro e w1 ⟨hg,hz,v1,rfl,F8,tF⟩
 clear xE xD xC um uk uj
 replace HZ:=ab hz
 replace aW:=ab (aw hg (aa aW) (by omega))
 replace HG:=ab ((aa HG).trans hg)
 clear hg hz
 obtain ⟨n,⟨kt,pt,tt⟩,rfl⟩:=F8
 have HV:Hid (∀a s,al R (jb en)=.ok (a,s)→a=(n,(⟨kt,pt,tt⟩:Tk))):=fun a s e=>by have:=tF a s e;obtain ⟨m,⟨k,q,t⟩⟩:=a;simp only[Yu,Tk.val,Value.tuple.injEq,Array.mk.injEq,List.cons.injEq,Value.int.injEq,Value.agg.injEq,Value.string.injEq] at this;obtain ⟨⟨_,rfl⟩,⟨⟨_,rfl⟩,⟨_,rfl⟩,rfl,_⟩,_⟩:=this;rfl
 clear tF
 unfold Tk.val
 have NN:b<w1.heap.size:=by have:=(aa HG).size;omega
 have D4:W.heap.size<w1.heap.size:=by have h:=(zA (aa aW)).1;exact h
 replace aW:=ab (bL (aa aW) (.cells #[.int .i64 kt,.int .i64 pt,.string tt] 38))
 have aZ:=ab (aF (w1) (.cells #[.int .i64 kt,.int .i64 pt,.string tt] 38))
 replace HZ:=ab ((aa HZ).up ((zE _ _).alloc (zD _) (.cells #[.int .i64 kt,.int .i64 pt,.string tt] 38)))
 replace HG:=ab ((aa HG).trans (aM ((zE _ _).alloc (zD _) (.cells #[.int .i64 kt,.int .i64 pt,.string tt] 38)) (some b)))
 obtain ⟨⟨xE,xD,xC⟩,du⟩:=dF (aa aW)
 have um:=du 0
 have uk:=du 1
 have uj:=du 2
 clear du
 obtain ⟨⟨Fb,Fa,E'⟩,mD⟩:=dF (aa aZ)
 have KR:=mD 0
 have KQ:=mD 1
 have KP:=mD 2
 clear mD
 go_upto_region 2 with fail
 go_cut [23] (fun v23 wx=>v23=.bool (decide (en=false∧(n<1∨536870911<n)))∧wx=w1.alloc (.cells #[.int .i64 kt,.int .i64 pt,.string tt] 38))
 case first =>
  cases en with
  |true =>
   have e3:decide (true=false∧(n<1∨536870911<n))=false:=decide_eq_false (fun q=>by cases q.1)
   go_wp2
   go_meet
   exact ⟨congrArg Value.bool e3.symm,rfl⟩
  |false =>
   by_cases g1:n<1
   ·have e1:decide (n<1)=true:=by simpa using g1
    have e3:decide (false=false∧(n<1∨536870911<n))=true:=decide_eq_true ⟨rfl,Or.inl g1⟩
    clear g1
    go_wp2
    go_meet
    exact ⟨congrArg Value.bool e3.symm,rfl⟩
   ·have e1:decide (n<1)=false:=by simpa using g1
    by_cases g2:536870911<n
    ·have e2:decide (536870911<n)=true:=by simpa using g2
     have e3:decide (false=false∧(n<1∨536870911<n))=true:=decide_eq_true ⟨rfl,Or.inr g2⟩
     clear g1 g2
     go_wp2
     go_meet
     exact ⟨congrArg Value.bool e3.symm,rfl⟩
    ·have e2:decide (536870911<n)=false:=by simpa using g2
     have e3:decide (false=false∧(n<1∨536870911<n))=false:=decide_eq_false (fun q=>q.2.elim g1 g2)
     clear g1 g2
     go_wp2
     go_meet
     exact ⟨congrArg Value.bool e3.symm,rfl⟩
 case rest =>
 obtain ⟨rfl,fV⟩:=hcut
 obtain ⟨w9,Vb⟩:∃x,x=wc:=⟨_,rfl⟩
 subst Vb
 rw[←fV] at HZ HG aW aZ
 clear xE xD xC um uk uj Fb Fa E' KR KQ KP
 clear fV
 obtain ⟨pb,Ky⟩:∃q,decide (en=false∧(n<1∨536870911<n))=q:=⟨_,rfl⟩
 rw[Ky]
 have Ww:=ab Ky
 clear Ky
 obtain ⟨⟨xE,xD,xC⟩,du⟩:=dF (aa aW)
 have um:=du 0
 have uk:=du 1
 have uj:=du 2
 clear du
 obtain ⟨⟨Fb,Fa,E'⟩,mD⟩:=dF (aa aZ)
 have KR:=mD 0
 have KQ:=mD 1
 have KP:=mD 2
 clear mD
 go_upto_if 23 with fail
 go_cut [] (fun wx=>Hid (World.grownBy (w9) wx (some b)∧Zr lo wx b (SF en n pt (aT (al R (jb en))))))
 case first =>
  cases pb with
  |true =>
   go_wp2_with fail
   refine (gX (aa HZ) 55 pt (by decide)).mono ?_
   rintro e w0 ⟨rfl,hg,hz⟩
   have HH:Hid (World.grownBy (w9) w0 (some b)∧Zr lo w0 b (SF en n pt (aT (al R (jb en))))):=⟨hg,by unfold SF;rw[if_pos (of_decide_eq_true (aa Ww))];exact hz⟩
   clear hg hz
   go_wp2
   go_meet
   exact HH
  |false =>
   go_wp2
   go_meet
   exact ⟨zI _ _,by unfold SF;rw[if_neg (of_decide_eq_false (aa Ww))];exact aa HZ⟩
 case rest =>
 obtain ⟨w2,fV⟩:∃x,x=wc:=⟨_,rfl⟩
 subst fV
 clear xE xD xC um uk uj Fb Fa E' KR KQ KP
 obtain ⟨hg,hz⟩:=aa hcut
 replace HZ:=ab hz
 replace aW:=ab (aw hg (aa aW) (by omega))
 replace aZ:=ab (aw hg (aa aZ) (by omega))
 replace HG:=ab ((aa HG).trans hg)
 clear hg hz hcut
 obtain ⟨p2,p3⟩:=SD (sp:=pt) (aa HV) rfl
 have P2:=ab p2
 have P3:=ab p3
 clear p2 p3 Ww HV
 have F':W.heap.size≠w1.heap.size:=by omega
 obtain ⟨⟨xE,xD,xC⟩,du⟩:=dF (aa aW)
 have um:=du 0
 have uk:=du 1
 have uj:=du 2
 clear du
 obtain ⟨⟨Fb,Fa,E'⟩,mD⟩:=dF (aa aZ)
 have KR:=mD 0
 have KQ:=mD 1
 have KP:=mD 2
 clear mD
 obtain ⟨t1,t2,t3⟩:=Bu (aa HG) (aa HZ) cC.2 (zD _) (aa aW) (.int .i64 kt) (.int .i64 pt) (.string tt)
 have T1:=ab t1
 have T2:=ab t2
 have T3:=ab t3
 clear t1 t2 t3
 go_upto_region 4 with fail
 go_region
 go_wp2
 refine bodyPost_ret (mU rfl _ _ W.heap.size 38 #[.int .i64 kt,.int .i64 pt,.string tt] (0,0) _ rfl (aa T1) Tryz.underlying38 rfl lC) rfl ?_
 refine ⟨aa T2,by rw[←aa P2];exact aa T3,_,rfl,⟨n,⟨kt,pt,tt⟩,rfl⟩,fun a s e=>?_⟩
 rw[aa P3 a s e]
 rfl
def U5 (v:Value):Prop:=∃d:Fd,v=d.val
theorem BL {n:Int}{t:Tk}{a:Int×Tk} (h:(Value.tuple #[.int .i64 n,.agg #[.int .i64 t.kind,.int .i64 t.spot,.string t.text]])=Yu a):a=(n,t):=by
 obtain ⟨m,⟨k,q,x⟩⟩:=a
 obtain ⟨k',q',x'⟩:=t
 simp only[Yu,Tk.val,Value.tuple.injEq,Array.mk.injEq,List.cons.injEq,Value.int.injEq,Value.agg.injEq,Value.string.injEq] at h
 obtain ⟨⟨_,rfl⟩,⟨⟨_,rfl⟩,⟨_,rfl⟩,rfl,_⟩,_⟩:=h
 rfl
theorem aa7 {R:PX}{d:Fd}{x1:ByteArray}{n:Int}{t:Tk} (lv:lp (aT (al (aT (al R aQ)) (au ⟨#[61]⟩))))
  (tF:∀a s,al R aQ=.ok (a,s)→Value.string x1=.string a) (lu:∀a s,al (aT (al (aT (al R aQ)) (au ⟨#[61]⟩))) (jb false)=.ok (a,s)→a=(n,t)) :
  aT (al (aT (al (aT (al (aT (al R aQ)) (au ⟨#[61]⟩))) (jb false))) rD)=aT (al R (AQ d))∧∀a s,al R (AQ d)=.ok (a,s)→a={ d with name:=x1,num:=n }:=by
 match R,lv,tF,lu with
 |.error y,_,_,_=>exact ⟨rfl,fun _ _ e=>(by cases e)⟩
 |.ok s,lv,tF,lu =>
  simp only[al] at lv tF lu ⊢
  unfold AQ eh
  cases h1:aQ s with
  |error y=>exact ⟨rfl,fun _ _ e=>(by cases e)⟩
  |ok p1 =>
   obtain ⟨a1,s1⟩:=p1
   rw[h1] at lv tF lu
   have e1:x1=a1:=by simpa using tF a1 s1 rfl
   subst e1
   simp only[aT] at lv lu ⊢
   cases h2:au ⟨#[61]⟩ s1 with
   |error y=>exact ⟨rfl,fun _ _ e=>(by cases e)⟩
   |ok p2 =>
    obtain ⟨a2,s2⟩:=p2
    rw[h2] at lv lu
    simp only at lv lu ⊢
    have KG:s2.bg=false:=lv.bg
    rw[AP KG 0 2147483647 false (.inr ⟨rfl,by omega⟩) rfl]
    cases h3:jb false s2 with
    |error y=>exact ⟨rfl,fun _ _ e=>(by cases e)⟩
    |ok p3 =>
     obtain ⟨a3,s3⟩:=p3
     have e3:=lu a3 s3 h3
     subst e3
     simp only[Lv]
     unfold rD
     by_cases hq:aH s3.here 4 ⟨#[91]⟩=true
     ·rw[if_pos hq,if_pos hq]
      exact ⟨rfl,fun _ _ e=>(by cases e)⟩
     ·rw[if_neg hq,if_neg hq]
      cases h4:au ⟨#[59]⟩ s3 with
      |error y=>exact ⟨rfl,fun _ _ e=>(by cases e)⟩
      |ok p4=>exact ⟨rfl,fun _ _ e=>(by cases e;rfl)⟩
theorem yh {W w:World}{lo b g:Nat}{R:PX}{b0 b1 b2 b3 b4 b5:Value}{T:TypeId} (hg:W.grownBy w (some b)) (hz:Zr lo w b R) (hl:lo≤W.heap.size) (hW:W.heap.size≤g) (hr:w.heap[g]?=some (.cells #[b0,b1,b2,b3,b4,b5] T (0,0))) (a0 a1 a2 a3 a4 a5:Value) :
  (mo w g a0 a1 a2 a3 a4 a5).heap[g]?=some (.cells #[a0,a1,a2,a3,a4,a5] T (0,0))∧W.grownBy (mo w g a0 a1 a2 a3 a4 a5) (some b)∧Zr lo (mo w g a0 a1 a2 a3 a4 a5) b R:=by
 obtain ⟨h1,h2⟩:=hU hr a0 a1 a2 a3 a4 a5
 exact ⟨h1,cy hg h2 hW,hz.gA h2 (Nat.le_trans hl hW)⟩
theorem Bo {W:World}{lo b:Nat}{R:PX} (h:Zr lo W b R) (d:Fd):Calls Tryz.prog 131 #[.pointer (some ⟨b,0,none⟩),d.val] W (ZQ lo b W Fd.val U5 (al R (AQ d))):=by
 obtain ⟨c0,k0,t0,n0,m0,o0⟩:=d
 have cC:=h.low
 have HZ:=ab h
 have HG:Hid (W.grownBy W (some b)):=zI _ _
 clear h
 unfold Fd.val Fd.arr
 simp only
 have U':b<W.heap.size:=by have:=(aa HG).size;omega
 have NP:W.heap.size≤W.heap.size:=by have:=(aa HG).size;omega
 have bH:=ab (aF (W) (.cells #[.int .i64 c0,.string k0,.string t0,.string n0,.int .i64 m0,.int .i64 o0] 45))
 replace HZ:=ab ((aa HZ).up ((zE _ _).alloc (zD _) (.cells #[.int .i64 c0,.string k0,.string t0,.string n0,.int .i64 m0,.int .i64 o0] 45)))
 replace HG:=ab ((aa HG).trans (aM ((zE _ _).alloc (zD _) (.cells #[.int .i64 c0,.string k0,.string t0,.string n0,.int .i64 m0,.int .i64 o0] 45)) (some b)))
 have Va:b<W.heap.size+1:=by have:=(aa HG).size;simp only[zJ] at this;omega
 have rl:W.heap.size≤W.heap.size+1:=by have:=(aa HG).size;simp only[zJ] at this;omega
 have adf:W.heap.size<W.heap.size+1:=by have h:=(zA (aa bH)).1;simp only[zJ] at h;exact h
 replace bH:=ab (bL (aa bH) (.cells #[.int .i64 0,.string ⟨#[]⟩,.string ⟨#[]⟩,.string ⟨#[]⟩,.int .i64 0,.int .i64 0] 45))
 have aW:=ab (aF (W.alloc (.cells #[.int .i64 c0,.string k0,.string t0,.string n0,.int .i64 m0,.int .i64 o0] 45)) (.cells #[.int .i64 0,.string ⟨#[]⟩,.string ⟨#[]⟩,.string ⟨#[]⟩,.int .i64 0,.int .i64 0] 45))
 replace aW:Hid (((W.alloc (.cells #[.int .i64 c0,.string k0,.string t0,.string n0,.int .i64 m0,.int .i64 o0] 45)).alloc (.cells #[.int .i64 0,.string ⟨#[]⟩,.string ⟨#[]⟩,.string ⟨#[]⟩,.int .i64 0,.int .i64 0] 45)).heap[W.heap.size+1]?=some (.cells #[.int .i64 0,.string ⟨#[]⟩,.string ⟨#[]⟩,.string ⟨#[]⟩,.int .i64 0,.int .i64 0] 45 (0,0))):=by have h:=aa aW;simp only[zJ] at h;exact h
 replace HZ:=ab ((aa HZ).up ((zE _ _).alloc (zD _) (.cells #[.int .i64 0,.string ⟨#[]⟩,.string ⟨#[]⟩,.string ⟨#[]⟩,.int .i64 0,.int .i64 0] 45)))
 replace HG:=ab ((aa HG).trans (aM ((zE _ _).alloc (zD _) (.cells #[.int .i64 0,.string ⟨#[]⟩,.string ⟨#[]⟩,.string ⟨#[]⟩,.int .i64 0,.int .i64 0] 45)) (some b)))
 go_enter Tryz.func131,Tryz.ntmps131
 have GD:=seen (aa bH)
 have Gm:=frzn (aa bH)
 have qv:=seen (aa aW)
 have qi:=frzn (aa aW)
 go_wp2_with fail
 refine (lA (aa HZ)).mono ?_
 rintro e w1 ⟨hg,hz,v1,rfl,F8,tF⟩
 clear GD Gm qv qi
 replace HZ:=ab hz
 replace bH:=ab (aw hg (aa bH) (by omega))
 replace aW:=ab (aw hg (aa aW) (by omega))
 replace HG:=ab ((aa HG).trans hg)
 clear hg hz
 obtain ⟨x1,rfl,iZ⟩:=F8
 have HV1:=ab tF
 clear tF iZ
 have GC:=seen (aa bH)
 have Gl:=frzn (aa bH)
 have qu:=seen (aa aW)
 have qh:=frzn (aa aW)
 obtain ⟨k1,g1⟩:=aC (j:=3) (aa bH) (.string x1)
 replace aW:=ab (aw g1 (aa aW) (by omega))
 replace bH:Hid ((w1.setCell ⟨W.heap.size,3,none⟩ (.string x1)).heap[W.heap.size]?=some (.cells #[.int .i64 c0,.string k0,.string t0,.string x1,.int .i64 m0,.int .i64 o0] 45 (0,0))):=k1
 replace HZ:=ab ((aa HZ).gA g1 (by omega))
 replace HG:=ab (cy (aa HG) g1 (by omega))
 clear k1 g1
 have K6:=seen (aa bH)
 have KO:=frzn (aa bH)
 have rI:=seen (aa aW)
 have ry:=frzn (aa aW)
 go_wp2_with fail
 refine (eZ (aa HZ) ⟨#[61]⟩).mono ?_
 rintro e w2 ⟨hg,hz,v2,rfl,B0,zS⟩
 clear GC Gl qu qh K6 KO rI ry
 replace HZ:=ab hz
 replace bH:=ab (aw hg (aa bH) (by omega))
 replace aW:=ab (aw hg (aa aW) (by omega))
 replace HG:=ab ((aa HG).trans hg)
 clear hg hz
 obtain rfl:=B0
 clear zS
 have SY:=ab (aa HZ).2
 have Cm:=seen (aa bH)
 have B6:=frzn (aa bH)
 have oH:=seen (aa aW)
 have ox:=frzn (aa aW)
 go_wp2_with fail
 refine (r' (aa HZ) false).mono ?_
 rintro e w3 ⟨hg,hz,v3,rfl,nc,lu⟩
 clear Cm B6 oH ox
 replace HZ:=ab hz
 replace bH:=ab (aw hg (aa bH) (by omega))
 replace aW:=ab (aw hg (aa aW) (by omega))
 replace HG:=ab ((aa HG).trans hg)
 clear hg hz
 obtain ⟨n,⟨kt,pt,tt⟩,rfl⟩:=nc
 have T9:Hid (∀a s,al (aT (al (aT (al R aQ)) (au ⟨#[61]⟩))) (jb false)=.ok (a,s)→a=(n,(⟨kt,pt,tt⟩:Tk))):=fun a s e=>BL (lu a s e)
 clear lu
 unfold Tk.val
 have zc:=seen (aa bH)
 have y7:=frzn (aa bH)
 have oG:=seen (aa aW)
 have ow:=frzn (aa aW)
 obtain ⟨k1,g1⟩:=aC (j:=4) (aa bH) (.int .i64 n)
 replace aW:=ab (aw g1 (aa aW) (by omega))
 replace bH:Hid ((w3.setCell ⟨W.heap.size,4,none⟩ (.int .i64 n)).heap[W.heap.size]?=some (.cells #[.int .i64 c0,.string k0,.string t0,.string x1,.int .i64 n,.int .i64 o0] 45 (0,0))):=k1
 replace HZ:=ab ((aa HZ).gA g1 (by omega))
 replace HG:=ab (cy (aa HG) g1 (by omega))
 clear k1 g1
 have sU:=seen (aa bH)
 have sQ:=frzn (aa bH)
 have qt:=seen (aa aW)
 have qd:=frzn (aa aW)
 go_wp2_with fail
 refine (G7 (aa HZ)).mono ?_
 rintro e w4 ⟨hg,hz,v4,rfl,p9,qE⟩
 clear zc y7 oG ow sU sQ qt qd
 replace HZ:=ab hz
 replace bH:=ab (aw hg (aa bH) (by omega))
 replace aW:=ab (aw hg (aa aW) (by omega))
 replace HG:=ab ((aa HG).trans hg)
 clear hg hz
 obtain rfl:=p9
 clear qE
 obtain ⟨p2,p3⟩:=aa7 (d:=⟨c0,k0,t0,n0,m0,o0⟩) (aa SY) (aa HV1) (aa T9)
 have P2:=ab p2
 have P3:=ab p3
 clear p2 p3 HV1 T9 SY
 have F':W.heap.size≠W.heap.size+1:=by omega
 have GB:=seen (aa bH)
 have Gk:=frzn (aa bH)
 have GF:=seen (aa aW)
 have Gq:=frzn (aa aW)
 obtain ⟨t1,t2,t3⟩:=yh (aa HG) (aa HZ) cC.2 rl (aa aW) (.int .i64 c0) (.string k0) (.string t0) (.string x1) (.int .i64 n) (.int .i64 o0)
 have T1:=ab t1
 have T2:=ab t2
 have T3:=ab t3
 clear t1 t2 t3
 go_wp2
 refine bodyPost_ret (results_cell_row rfl _ _ (W.heap.size+1) 45 #[.int .i64 c0,.string k0,.string t0,.string x1,.int .i64 n,.int .i64 o0] (0,0) _ rfl (aa T1) Tryz.underlying45 rfl ko) rfl ?_
 refine ⟨aa T2,by rw[←aa P2];exact aa T3,_,rfl,⟨⟨c0,k0,t0,x1,n,o0⟩,rfl⟩,fun a s e=>?_⟩
 rw[aa P3 a s e]
def lk (ct:Bool) (s:ax):ax:=if ct=true then s.begun else s
noncomputable def gT (da ct:Bool) (s:ax):Except (Int×Int) (ByteArray×ax):=match (if da=true then bX 4 ⟨#[46]⟩ (lk ct s) else .ok (false,lk ct s)) with
 |.error e=>.error e
 |.ok (d,s1)=>match aQ s1 with
  |.error e=>.error e
  |.ok (x,s2)=>.ok ((if d=true then (⟨#[46]⟩:ByteArray)++x else x),s2)
theorem zl (x y:ByteArray):(x++y).data.toList=x.data.toList++y.data.toList:=by simp
theorem Pw (ct:Bool) (s:ax):(lk ct s).here=s.here:=by unfold lk;split<;>rfl
theorem tI (da ct:Bool) (s:ax):ba da (lk ct s)=match gT da ct s with
 |.error e=>.error e
 |.ok (x,s2)=>oC s.here.spot (dB (s2.ts.length+1) x.data.toList s2):=by
 unfold ba gT iu
 rw[Pw]
 cases h1:(if da=true then bX 4 ⟨#[46]⟩ (lk ct s) else .ok (false,lk ct s)) with
 |error y=>rfl
 |ok p =>
  obtain ⟨d,s1⟩:=p
  simp only
  cases h2:aQ s1 with
  |error y=>rfl
  |ok q =>
   obtain ⟨x,s2⟩:=q
   simp only
   cases d with
   |true=>simp only[if_true,zl]
   |false=>simp
theorem Oc {da ct:Bool}{s:ax} (hg:Gd s) (hq:(da&&aH s.here 4 ⟨#[46]⟩)=true):gT da ct s=bQ (if ct=true then aN s.here.spot s else .ok ((),s)) (fun _ s1=>bQ (aQ s1.nx) (fun x s2=>.ok ((⟨#[46]⟩:ByteArray)++x,s2))):=by
 rw[Bool.and_eq_true] at hq
 unfold gT lk
 rw[if_pos hq.1]
 cases ct with
 |true =>
  rw[if_pos rfl,if_pos rfl,yk hg,if_pos hq.2]
  cases hb:aN s.here.spot s with
  |error y=>rfl
  |ok p =>
   rw[aK,aK]
   simp only
   cases hn:aQ p.2.nx with
   |error y=>rfl
   |ok q=>rfl
 |false =>
  rw[if_neg Bool.false_ne_true,if_neg Bool.false_ne_true,cV hg.bg,if_pos hq.2,aK]
  simp only
  cases hn:aQ s.nx with
  |error y=>rfl
  |ok q=>rfl
theorem IL {da ct:Bool}{s:ax} (hg:Gd s) (hq:(da&&aH s.here 4 ⟨#[46]⟩)=false):gT da ct s=bQ (aQ s) (fun x s1=>bQ (if ct=true then aN s.here.spot s1 else .ok ((),s1)) (fun _ s2=>.ok (x,s2))):=by
 have h0:(if da=true then bX 4 ⟨#[46]⟩ (lk ct s) else .ok (false,lk ct s))=(.ok (false,lk ct s):Except (Int×Int) (Bool×ax)):=by
  cases da with
  |false=>rfl
  |true =>
   have lF:¬aH s.here 4 ⟨#[46]⟩=true:=by rw[Bool.true_and] at hq;rw[hq];decide
   rw[if_pos rfl]
   unfold lk
   cases ct with
   |true=>rw[if_pos rfl,yk hg,if_neg lF]
   |false=>rw[if_neg Bool.false_ne_true,cV hg.bg,if_neg lF]
 unfold gT
 rw[h0]
 simp only
 unfold lk
 cases ct with
 |true =>
  rw[if_pos rfl,Dz hg]
  cases hn:aQ s with
  |error y=>rfl
  |ok q =>
   rw[aK,aK,if_pos rfl]
   cases hb:aN s.here.spot q.2 with
   |error y=>rfl
   |ok p=>rfl
 |false =>
  rw[if_neg Bool.false_ne_true]
  cases hn:aQ s with
  |error y=>rfl
  |ok q=>rfl
def ny (ct:Bool) (sp:Int) (s:ax):Except (Int×Int) (Unit×ax):=if ct=true then aN sp s else .ok ((),s)
def A0 (da ct:Bool) (R:PX) (x:ByteArray):Prop:=x.size≤200000000000000∧∀a s,al R (gT da ct)=.ok (a,s)→x=a∧a.size≤256
theorem We {ct:Bool}{sp:Int}{s s1:ax}{u:Unit} (h:ny ct sp s=.ok (u,s1)):s1.ts=s.ts:=by
 unfold ny aN at h
 split at h
 ·split at h
  ·cases h
  ·cases h;rfl
 ·cases h;rfl
theorem Vs {da ct:Bool}{s:ax}{pt:Int}{x1:ByteArray} (hg:Gd s) (hq:(da&&aH s.here 4 ⟨#[46]⟩)=true) (ht:pt=s.here.spot) (hx:x1.size≤140737488355327) (hv:∀a s',al (kI (aT (al (.ok s) (ny ct pt)))) aQ=.ok (a,s')→Value.string x1=.string a) :
  aT (al (kI (aT (al (.ok s) (ny ct pt)))) aQ)=aT (al (.ok s) (gT da ct))∧A0 da ct (.ok s) ((⟨#[46]⟩:ByteArray)++x1):=by
 subst ht
 have hE:=Oc (ct:=ct) hg hq
 have cl:((⟨#[46]⟩:ByteArray)++x1).size=1+x1.size:=ByteArray.size_append
 unfold A0
 rw[cl]
 show _=aT (gT da ct s)∧_∧∀a s',gT da ct s=.ok (a,s')→_
 rw[hE,show (if ct=true then aN s.here.spot s else .ok ((),s))=ny ct s.here.spot s from rfl]
 rw[show al (.ok s) (ny ct s.here.spot)=ny ct s.here.spot s from rfl] at hv ⊢
 cases hb:ny ct s.here.spot s with
 |error y=>exact ⟨rfl,by omega,fun _ _ e=>(by cases e)⟩
 |ok p =>
  rw[hb] at hv
  rw[aK]
  rw[show al (kI (aT (.ok p))) aQ=aQ p.2.nx from rfl] at hv ⊢
  cases hn:aQ p.2.nx with
  |error y=>exact ⟨rfl,by omega,fun _ _ e=>(by cases e)⟩
  |ok q =>
   have e1:x1=q.1:=by simpa using hv q.1 q.2 hn
   have e2:=(jy hn).2.1
   refine ⟨rfl,by omega,fun a s' e=>?_⟩
   cases e
   refine ⟨by rw[e1],?_⟩
   rw[←e1,cl]
   rw[←e1] at e2
   omega
theorem ZF {da ct:Bool}{R:PX}{pt:Int}{k:Int}{tx:ByteArray}{x1:ByteArray} (hg:lp R) (hq:(da&&gd R 4 ⟨#[46]⟩)=false) (hp:EN R ⟨k,pt,tx⟩) (hx:x1.size≤140737488355327) (hv:∀a s',al R aQ=.ok (a,s')→Value.string x1=.string a) :
  aT (al (aT (al R aQ)) (ny ct pt))=aT (al R (gT da ct))∧A0 da ct R x1:=by
 unfold A0
 match R,hg,hq,hp,hv with
 |.error y,_,_,_,_=>exact ⟨rfl,by omega,fun _ _ e=>(by cases e)⟩
 |.ok s,hg,hq,hp,hv =>
  have ht:pt=s.here.spot:=hp.2.1
  subst ht
  have hE:=IL (ct:=ct) hg hq
  show _=aT (gT da ct s)∧_∧∀a s',gT da ct s=.ok (a,s')→_
  rw[hE]
  rw[show al (.ok s) aQ=aQ s from rfl] at hv ⊢
  cases hn:aQ s with
  |error y=>exact ⟨rfl,by omega,fun _ _ e=>(by cases e)⟩
  |ok q =>
   have e1:x1=q.1:=by simpa using hv q.1 q.2 hn
   have e2:=(jy hn).2.1
   rw[aK]
   show aT (ny ct s.here.spot q.2)=aT (bQ (ny ct s.here.spot q.2) _)∧_∧∀a s',bQ (ny ct s.here.spot q.2) _=.ok (a,s')→_
   cases hb:ny ct s.here.spot q.2 with
   |error y=>exact ⟨rfl,by omega,fun _ _ e=>(by cases e)⟩
   |ok p =>
    refine ⟨rfl,by omega,fun a s' e=>?_⟩
    cases e
    exact ⟨e1,by omega⟩
def mR:PX→Nat
 |.ok s=>s.ts.length+1
 |.error _=>0
def SK (sp:Int) (F0:Except (Int×Int) (ByteArray×ax)) (x:ByteArray) (R:PX):Prop:=x.size≤400000000000000∧match R with
 |.ok s=>x.size+300*s.ts.length≤10000000∧∃f,s.ts.length<f∧F0=oC sp (dB f x.data.toList s)
 |.error y=>F0=.error y
theorem SK.start {da ct:Bool}{R:PX}{k sp:Int}{tx x:ByteArray} (hg:lp R) (hp:EN R ⟨k,sp,tx⟩) (h:A0 da ct R x):SK sp (al R (fun s=>ba da (lk ct s))) x (aT (al R (gT da ct))):=by
 refine ⟨by have:=h.1;omega,?_⟩
 match R,hg,hp,h with
 |.error y,_,_,_=>exact rfl
 |.ok s,hg,hp,h =>
  have ht:sp=s.here.spot:=hp.2.1
  subst ht
  show match aT (gT da ct s) with
   |.ok s'=>_
   |.error y=>ba da (lk ct s)=.error y
  have hd:=tI da ct s
  cases hh:gT da ct s with
  |error y=>rw[hh] at hd;exact hd
  |ok q =>
   rw[hh] at hd
   obtain ⟨e1,e2⟩:=h.2 q.1 q.2 hh
   have hl:q.2.ts.length≤16384:=by
    have hs:jj (lk ct s) q.2:=by
     unfold gT at hh
     cases h1:(if da=true then bX 4 ⟨#[46]⟩ (lk ct s) else .ok (false,lk ct s)) with
     |error y=>rw[h1] at hh;cases hh
     |ok p =>
      rw[h1] at hh
      obtain ⟨d,s1⟩:=p
      simp only at hh
      have nG:jj (lk ct s) s1:=by
       split at h1
       ·exact dU h1
       ·cases h1;exact .refl _
      cases h2:aQ s1 with
      |error y=>rw[h2] at hh;cases hh
      |ok r =>
       rw[h2] at hh
       obtain ⟨x',s2⟩:=r
       simp only[Except.ok.injEq] at hh
       rw[←hh]
       exact nG.trans (gz h2).gu
    have:=hs.len
    have h3:=hg.len
    have h4:(lk ct s).ts=s.ts:=by unfold lk;split<;>rfl
    rw[h4] at this
    omega
   show x.size+300*q.2.ts.length≤10000000∧∃f,q.2.ts.length<f∧ba da (lk ct s)=_
   exact ⟨by rw[e1];omega,q.2.ts.length+1,by omega,by rw[e1];exact hd⟩
theorem SK.step {sp:Int}{F0:Except (Int×Int) (ByteArray×ax)}{x x1:ByteArray}{s:ax} (hg:Gd s) (h:SK sp F0 x (.ok s)) (hq:aH s.here 4 ⟨#[46]⟩=true) (hx:x1.size≤140737488355327) (hv:∀a s',al (kI (.ok s)) aQ=.ok (a,s')→Value.string x1=.string a):SK sp F0 (x++(⟨#[46]⟩:ByteArray)++x1) (aT (al (kI (.ok s)) aQ))∧mR (aT (al (kI (.ok s)) aQ))<mR (.ok s):=by
 obtain ⟨h1,h2,f,hf,h3⟩:=h
 have cl:(x++(⟨#[46]⟩:ByteArray)++x1).size=x.size+1+x1.size:=by rw[ByteArray.size_append,ByteArray.size_append];rfl
 have dN:=eT hg.en hq (by decide)
 have IE:s.nx.ts.length=s.ts.length-1:=List.length_tail
 obtain ⟨g,rfl⟩:∃g,f=g+1:=⟨f-1,by omega⟩
 rw[show dB (g+1) x.data.toList s=(match bX 4 ⟨#[46]⟩ s with|.error e=>.error e|.ok (false,s1)=>.ok (x.data.toList,s1)|.ok (true,s1)=>match aQ s1 with|.error e=>.error e|.ok (y,s2)=>dB g ((x.data.toList++[46])++y.data.toList) s2) from rfl,cV hg.bg,if_pos hq] at h3
 simp only at h3
 rw[show al (kI (.ok s)) aQ=aQ s.nx from rfl] at hv ⊢
 cases hn:aQ s.nx with
 |error y =>
  rw[hn] at h3
  exact ⟨⟨by omega,h3⟩,by show 0<s.ts.length+1;omega⟩
 |ok q =>
  rw[hn] at h3
  obtain ⟨y,s2⟩:=q
  have e1:x1=y:=by simpa using hv y s2 hn
  subst e1
  have e2:=(jy hn).2.1
  have e3:=(gz hn).gu.len
  refine ⟨⟨by omega,by rw[cl];show _+300*s2.ts.length≤_;omega,g,by show s2.ts.length<g;omega,?_⟩,by show s2.ts.length+1<s.ts.length+1;omega⟩
  rw[zl,zl]
  exact h3
def Yv (sp:Int) (x:ByteArray) (R:PX):PX:=if 255<x.size then mI 2 sp R else R
theorem SK.fin {sp:Int}{F0:Except (Int×Int) (ByteArray×ax)}{x:ByteArray}{R:PX} (hg:lp R) (h:SK sp F0 x R) (hq:gd R 4 ⟨#[46]⟩=false):Yv sp x R=aT F0∧∀a s,F0=.ok (a,s)→x=a:=by
 match R,hg,h,hq with
 |.error y,_,h,_ =>
  rw[show F0=.error y from h.2]
  exact ⟨by unfold Yv;split<;>rfl,fun _ _ e=>(by cases e)⟩
 |.ok s,hg,⟨_,_,f,hf,h3⟩,hq =>
  obtain ⟨g,rfl⟩:∃g,f=g+1:=⟨f-1,by omega⟩
  have lF:¬aH s.here 4 ⟨#[46]⟩=true:=by rw[show aH s.here 4 ⟨#[46]⟩=false from hq];decide
  rw[show dB (g+1) x.data.toList s=(match bX 4 ⟨#[46]⟩ s with|.error e=>.error e|.ok (false,s1)=>.ok (x.data.toList,s1)|.ok (true,s1)=>match aQ s1 with|.error e=>.error e|.ok (y,s2)=>dB g ((x.data.toList++[46])++y.data.toList) s2) from rfl,cV hg.bg,if_neg lF] at h3
  have h4:F0=if 255<x.size then .error (2,sp) else .ok (x,s):=h3
  rw[h4]
  unfold Yv
  by_cases hc:255<x.size
  ·rw[if_pos hc,if_pos hc]
   exact ⟨rfl,fun _ _ e=>(by cases e)⟩
  ·rw[if_neg hc,if_neg hc]
   exact ⟨rfl,fun _ _ e=>(by cases e;rfl)⟩
def Tj (v:Value):Prop:=∃x:ByteArray,v=.string x
theorem l7 {W:World}{lo b:Nat}{R:PX} (h:Zr lo W b R) (da ct:Bool):Calls Tryz.prog 37 #[.pointer (some ⟨b,0,none⟩),.bool da,.bool ct] W (ZQ lo b W Value.string Tj (al R (fun s=>ba da (lk ct s)))):=by
 have cC:=h.low
 have lZ:Hid (lp R):=h.2
 have HZ:=ab h
 have HG:Hid (W.grownBy W (some b)):=zI _ _
 clear h
 go_enter Tryz.func37,Tryz.ntmps37
 go_wp2_with fail
 refine (gm (aa HZ)).mono ?_
 rintro e w1 ⟨⟨kt,pt,tt⟩,rfl,hb,hp⟩
 have po:=ab hp
 replace HZ:=ab ((aa HZ).up hb)
 have hg:=aM hb (some b)
 replace HG:=ab ((aa HG).trans hg)
 clear hb hp hg
 unfold Tk.val
 have NN:b<w1.heap.size:=by have:=(aa HG).size;omega
 have Ry:W.heap.size≤w1.heap.size:=by have:=(aa HG).size;omega
 have aZ:=ab (aF (w1) (.cells #[.int .i64 kt,.int .i64 pt,.string tt] 38))
 replace HZ:=ab ((aa HZ).up ((zE _ _).alloc (zD _) (.cells #[.int .i64 kt,.int .i64 pt,.string tt] 38)))
 replace HG:=ab ((aa HG).trans (aM ((zE _ _).alloc (zD _) (.cells #[.int .i64 kt,.int .i64 pt,.string tt] 38)) (some b)))
 have Cn:=seen (aa aZ)
 have B7:=frzn (aa aZ)
 go_upto_region 3 with fail
 go_cut [15] (fun v15 wx=>v15=.bool (da&&gd R 4 ⟨#[46]⟩)∧Hid (Below (w1.alloc (.cells #[.int .i64 kt,.int .i64 pt,.string tt] 38)).heap.size (w1.alloc (.cells #[.int .i64 kt,.int .i64 pt,.string tt] 38)) wx))
 case first =>
  cases da with
  |false =>
   go_wp2
   go_meet
   exact ⟨rfl,zE _ _⟩
  |true =>
   go_wp2_with fail
   refine (iw (aa HZ) 4 (by decide) ⟨#[46]⟩).mono ?_
   rintro e w0 ⟨rfl,hb⟩
   have HB:=ab hb
   clear hb
   go_wp2
   go_meet
   exact ⟨rfl,HB⟩
 case rest =>
 obtain ⟨w2,fV⟩:∃x,x=wc:=⟨_,rfl⟩
 subst fV
 obtain ⟨rfl,hb⟩:=hcut
 replace HZ:=ab ((aa HZ).up (aa hb))
 have hg:=aM (aa hb) (some b)
 clear Cn B7
 replace aZ:=ab (aw hg (aa aZ) (by omega))
 replace HG:=ab ((aa HG).trans hg)
 clear hg hb
 obtain ⟨q,hq⟩:∃q,(da&&gd R 4 ⟨#[46]⟩)=q:=⟨_,rfl⟩
 rw[hq]
 have jw:=ab hq
 clear hq
 have lV:=seen (aa aZ)
 have lR:=frzn (aa aZ)
 go_upto_if 15 with fail
 go_cut [8] (fun v8 wx=>∃x,v8=.string x∧Hid (A0 da ct R x)∧Hid (World.grownBy (w2) wx (some b)∧Zr lo wx b (aT (al R (gT da ct)))))
 case first =>
  cases q with
  |true =>
   have hq:=aa jw
   rw[Bool.and_eq_true] at hq
   obtain ⟨s,rfl,hs⟩:=fE hq.2
   have HS:Hid ((da&&aH s.here 4 ⟨#[46]⟩)=true):=aa jw
   have hpt:pt=s.here.spot:=(aa po).2.1
   have HPP:=ab hpt
   clear hq hpt hs
   have HK:Hid (World.grownBy (w2) (w2) (some b)):=zI _ _
   go_upto_if 16 with fail
   go_cut [] (fun wx=>Hid (World.grownBy (w2) wx (some b)∧Zr lo wx b (aT (al (.ok s) (ny ct pt)))))
   case first =>
    cases ct with
    |false =>
     go_wp2
     go_meet
     exact ⟨zI _ _,aa HZ⟩
    |true =>
     go_wp2_with fail
     refine (eB (aa HZ) ⟨kt,pt,tt⟩).mono ?_
     rintro e w0 ⟨hg,hz,v0,rfl,mA,-⟩
     obtain rfl:=mA
     have HH:Hid (World.grownBy (w2) w0 (some b)∧Zr lo w0 b (aT (al (.ok s) (ny true pt)))):=⟨hg,hz⟩
     clear hg hz
     go_wp2
     go_meet
     exact HH
   case rest =>
   obtain ⟨w3,fV⟩:∃x,x=wc:=⟨_,rfl⟩
   subst fV
   clear lV lR
   obtain ⟨hg,hz⟩:=aa hcut
   replace HK:=ab ((aa HK).trans hg)
   replace HZ:=ab hz
   replace aZ:=ab (aw hg (aa aZ) (by omega))
   replace HG:=ab ((aa HG).trans hg)
   clear hg hz hcut
   obtain ⟨i,ci,fi,bF,hi⟩:=(aa HZ).next (fun s' e=>by
    cases hb:ny ct pt s with
    |error y=>rw[show al (.ok s) (ny ct pt)=ny ct pt s from rfl,hb] at e;cases e
    |ok p =>
     rw[show al (.ok s) (ny ct pt)=ny ct pt s from rfl,hb] at e
     cases e
     rw[We hb]
     have hq:=aa HS
     rw[Bool.and_eq_true] at hq
     exact eT (aa lZ).en hq.2 (by decide))
   obtain ⟨g1,z1⟩:=bF (wrap64 (i+1)) (fun s e=>eN (hi s e))
   replace HZ:=ab z1
   replace HK:=ab ((aa HK).trans g1)
   clear z1 g1 bF hi
   go_wp2_with fail
   refine (lA (aa HZ)).mono ?_
   rintro e w4 ⟨hg,hz,v,rfl,⟨x1,rfl,iZ⟩,hv⟩
   replace HK:=ab ((aa HK).trans hg)
   obtain ⟨e1,e2⟩:=Vs (aa lZ) (aa HS) (aa HPP) iZ hv
   have HH:Hid (World.grownBy (w2) w4 (some b)∧Zr lo w4 b (aT (al (.ok s) (gT da ct)))):=⟨aa HK,by rw[←e1];exact hz⟩
   have E2:=ab e2
   clear hg hz hv e1 e2 ci fi
   go_wp2
   go_meet
   exact ⟨_,rfl,E2,HH⟩
  |false =>
   go_wp2_with fail
   refine (lA (aa HZ)).mono ?_
   rintro e w3 ⟨hg,hz,v,rfl,⟨x1,rfl,iZ⟩,hv⟩
   clear lV lR
   obtain ⟨e1,e2⟩:=ZF (da:=da) (ct:=ct) (aa lZ) (aa jw) (aa po) iZ hv
   have E1:=ab e1
   have E2:=ab e2
   have HK:=ab hg
   replace HZ:=ab hz
   replace aZ:=ab (aw hg (aa aZ) (by omega))
   replace HG:=ab ((aa HG).trans hg)
   clear hg hz hv iZ e1 e2
   have oF:=seen (aa aZ)
   have ou:=frzn (aa aZ)
   go_upto_if 32 with fail
   go_cut [] (fun wx=>Hid (World.grownBy (w3) wx (some b)∧Zr lo wx b (aT (al (aT (al R aQ)) (ny ct pt)))))
   case first =>
    cases ct with
    |false =>
     go_wp2
     go_meet
     exact ⟨zI _ _,by
      have:=aa HZ
      cases hr:aT (al R aQ) with
      |error y=>rw[hr] at this;exact this
      |ok s'=>rw[hr] at this;exact this⟩
    |true =>
     go_wp2_with fail
     refine (eB (aa HZ) ⟨kt,pt,tt⟩).mono ?_
     rintro e w0 ⟨hg,hz,v0,rfl,mA,-⟩
     obtain rfl:=mA
     have HH:Hid (World.grownBy (w3) w0 (some b)∧Zr lo w0 b (aT (al (aT (al R aQ)) (ny true pt)))):=⟨hg,hz⟩
     clear hg hz
     go_wp2
     go_meet
     exact HH
   case rest =>
   clear oF ou
   obtain ⟨hg,hz⟩:=aa hcut
   have HH:Hid (World.grownBy (w2) wc (some b)∧Zr lo wc b (aT (al R (gT da ct)))):=⟨(aa HK).trans hg,by rw[←aa E1];exact hz⟩
   clear hg hz hcut
   go_wp2
   go_meet
   exact ⟨_,rfl,E2,HH⟩
 case rest =>
 obtain ⟨w10,fV⟩:∃x,x=wc:=⟨_,rfl⟩
 subst fV
 clear lV lR
 obtain ⟨x,rfl,hx,hrel⟩:=hcut
 obtain ⟨hg,hz⟩:=aa hrel
 replace HZ:=ab hz
 replace aZ:=ab (aw hg (aa aZ) (by omega))
 replace HG:=ab ((aa HG).trans hg)
 have HJ:=ab (SK.start (aa lZ) (aa po) (aa hx))
 clear hg hz hrel hx jw lZ po
 obtain ⟨F0,sM⟩:∃F0,F0=al R (fun s=>ba da (lk ct s)):=⟨_,rfl⟩
 rw[←sM] at HJ
 have Fe:=ab sM
 clear sM
 obtain ⟨R1,TA⟩:∃R1,R1=aT (al R (gT da ct)):=⟨_,rfl⟩
 rw[←TA] at HJ HZ
 clear TA
 go_wp2
 go_loopg [8] (mR R1) (fun gk v8 wr=>∃(y:ByteArray) (Rk:PX),v8=.string y∧gk=mR Rk∧Hid (SK pt F0 y Rk)∧Hid (Zr lo wr b Rk)∧Hid (W.grownBy wr (some b))∧Hid (wr.heap[w1.heap.size]?=some (.cells #[.int .i64 kt,.int .i64 pt,.string tt] 38 (0,0))))
 case atStart=>exact ⟨x,R1,rfl,rfl,HJ,HZ,HG,aZ⟩
 case round =>
  clear HJ HZ HG aZ
  obtain ⟨y,Rk,rfl,dY,HJ,HZ,HG,aZ⟩:=hrel
  have zz:=ab dY
  clear dY
  obtain ⟨er,Sz,her⟩:=(aa HZ).err
  go_upto_region 11 with fail
  go_cut [44] from 36 to 56 (fun v44 wx=>v44=.bool (gd Rk 4 ⟨#[46]⟩)∧Hid (Below wr.heap.size wr wx))
  case first =>
   cases Rk with
   |error y =>
    replace her:(er==0)=false:=her
    go_wp2
    go_meet
    exact ⟨rfl,zE _ _⟩
   |ok s =>
    replace her:(er==0)=true:=her
    go_wp2_with fail
    refine (iw (aa HZ) 4 (by decide) ⟨#[46]⟩).mono ?_
    rintro e w0 ⟨rfl,hb⟩
    have HB:=ab hb
    clear hb
    go_wp2
    go_meet
    exact ⟨rfl,HB⟩
  case rest =>
  obtain ⟨w11,fV⟩:∃x,x=wc:=⟨_,rfl⟩
  subst fV
  obtain ⟨rfl,hb⟩:=hcut
  replace HZ:=ab ((aa HZ).up (aa hb))
  have hg:=aM (aa hb) (some b)
  replace aZ:=ab (aw hg (aa aZ) (by omega))
  replace HG:=ab ((aa HG).trans hg)
  clear hg hb Sz her
  obtain ⟨q,hq⟩:∃q,gd Rk 4 ⟨#[46]⟩=q:=⟨_,rfl⟩
  rw[hq]
  have jw:=ab hq
  clear hq
  cases q with
  |true =>
   obtain ⟨s,rfl,hs⟩:=fE (aa jw)
   have HS:=ab hs
   obtain ⟨i,ci,fi,bF,hi⟩:=(aa HZ).next (fun s' e=>by cases e;exact eT (aa HZ).2.en hs (by decide))
   obtain ⟨g1,z1⟩:=bF (wrap64 (i+1)) (fun s e=>eN (hi s e))
   have lZ:=ab (aa HZ).2
   replace HZ:=ab z1
   replace aZ:=ab (aw g1 (aa aZ) (by omega))
   replace HG:=ab ((aa HG).trans g1)
   clear g1 z1 bF hi hs
   have hy0:=(aa HJ).1
   go_wp2_with fail
   refine (lA (aa HZ)).mono ?_
   rintro e JH ⟨hg,hz,v,rfl,⟨x1,rfl,iZ⟩,hv⟩
   obtain ⟨j1,j2⟩:=(aa HJ).step (aa lZ) (aa HS) iZ hv
   have HJ2:=ab j1
   have HM:=ab j2
   replace HZ:=ab hz
   replace aZ:=ab (aw hg (aa aZ) (by omega))
   replace HG:=ab ((aa HG).trans hg)
   clear hg hz hv j1 j2 ci fi HJ lZ
   go_wp2
   go_roundg (mR (aT (al (kI (.ok s)) aQ)))
   case measure=>have:=aa zz;have:=aa HM;omega
   case rel=>exact ⟨_,aT (al (kI (.ok s)) aQ),rfl,rfl,HJ2,HZ,HG,aZ⟩
  |false =>
   obtain ⟨p2,p3⟩:=(aa HJ).fin (aa HZ).2 (aa jw)
   have P2:=ab p2
   have P3:=ab p3
   clear p2 p3
   have oF:=seen (aa aZ)
   have ou:=frzn (aa aZ)
   by_cases hc:255<y.size
   ·have e1:decide ((255:Int)<(y.size:Int))=true:=by simp;omega
    have HC:=ab hc
    clear hc
    go_wp2_with fail
    refine (gX (aa HZ) 2 pt (by decide)).mono ?_
    rintro e JH ⟨rfl,hg,hz⟩
    have HH:Hid (W.grownBy JH (some b)∧Zr lo JH b (aT F0)):=⟨(aa HG).trans hg,by rw[←aa P2];unfold Yv;rw[if_pos (aa HC)];exact hz⟩
    clear hg hz
    go_wp2
    go_ret
    rw[←aa Fe]
    exact ⟨(aa HH).1,(aa HH).2,_,rfl,⟨_,rfl⟩,fun a s e=>by rw[←aa P3 a s e];rfl⟩
   ·have e1:decide ((255:Int)<(y.size:Int))=false:=by simp;omega
    have HC:=ab hc
    clear hc
    go_wp2
    go_ret
    rw[←aa Fe]
    exact ⟨aa HG,by rw[←aa P2];unfold Yv;rw[if_neg (aa HC)];exact aa HZ,_,rfl,⟨_,rfl⟩,fun a s e=>by rw[←aa P3 a s e];rfl⟩
end Go.Proofs.YtjophoclfccmcaaGreatDoor

import Derived.Test.YtjophoclfccmcaaGreatDoorM35
set_option maxHeartbeats 4000000
set_option maxRecDepth 100000
namespace Go.Proofs.YtjophoclfccmcaaGreatDoor
open Go.RowKit
attribute [local go_sem ↓] Go.wp_at_zero Go.wp_at_succ
def SN (en:Bool) (n sp:Int) (R:PX):PX:=if en=false∧(n<1∨536870911<n) then mL 55 sp R else R
theorem SL {R:PX}{en:Bool}{n sp:Int}{t:Tk} (hv:∀a s,al R (jc en)=.ok (a,s)→a=(n,t)) (ht:t.spot=sp):SN en n sp (aT (al R (jc en)))=aT (al R (cE en))∧∀a s,al R (cE en)=.ok (a,s)→a=(n,t):=by
 match R,hv with
 |.error y,_=>exact ⟨by unfold SN;show (if _ then mL _ _ (.error y) else .error y)=.error y;split<;>rfl,fun _ _ e=>(by cases e)⟩
 |.ok s,hv =>
  show SN en n sp (aT (jc en s))=aT (cE en s)∧∀a s',cE en s=.ok (a,s')→a=(n,t)
  unfold cE
  cases hn:jc en s with
  |error y=>exact ⟨by unfold SN;show (if _ then mL _ _ (.error y) else .error y)=.error y;split<;>rfl,fun _ _ e=>(by cases e)⟩
  |ok p =>
   obtain ⟨a,s1⟩:=p
   obtain rfl:=hv a s1 hn
   rw[aL]
   dsimp only
   unfold SN
   by_cases hc:en=false∧(n<1∨536870911<n)
   ·rw[if_pos hc,if_pos hc,ht]
    exact ⟨rfl,fun _ _ e=>(by cases e)⟩
   ·rw[if_neg hc,if_neg hc]
    exact ⟨rfl,fun _ _ e=>(by cases e;rfl)⟩
theorem CS {W:World}{lo b:Nat}{R:PX} (h:Zr lo W b R) (en:Bool):Calls Tryz.prog 132 #[.pointer (some ⟨b,0,none⟩),.bool en] W (ZQ lo b W YK YX (al R (cE en))):=by
 have cB:=h.low
 have HZ:=ab h
 have HG:Hid (W.grownBy W (some b)):=zI _ _
 clear h
 have Vm:b<W.heap.size:=by have:=(aa HG).size;omega
 have aV:=ab (aH (W) (.cells #[.int .i64 0,.int .i64 0,.string ⟨#[]⟩] 38))
 replace HZ:=ab ((aa HZ).up ((zE _ _).alloc (zD _) (.cells #[.int .i64 0,.int .i64 0,.string ⟨#[]⟩] 38)))
 replace HG:=ab ((aa HG).trans (aO ((zE _ _).alloc (zD _) (.cells #[.int .i64 0,.int .i64 0,.string ⟨#[]⟩] 38)) (some b)))
 go_enter Tryz.func132,Tryz.ntmps132
 obtain ⟨⟨xC,xB,xA⟩,dp⟩:=dE (aa aV)
 have uu:=dp 0
 have ur:=dp 1
 have uq:=dp 2
 clear dp
 go_wp2_with fail
 refine (si (aa HZ) en).mono ?_
 rintro e w1 ⟨hg,hz,v1,rfl,F2,tL⟩
 clear xC xB xA uu ur uq
 replace HZ:=ab hz
 replace aV:=ab (ax hg (aa aV) (by omega))
 replace HG:=ab ((aa HG).trans hg)
 clear hg hz
 obtain ⟨n,⟨kt,pt,tt⟩,rfl⟩:=F2
 have HV:Hid (∀a s,al R (jc en)=.ok (a,s)→a=(n,(⟨kt,pt,tt⟩:Tk))):=fun a s e=>by have:=tL a s e;obtain ⟨m,⟨k,q,t⟩⟩:=a;simp only[YK,Tk.val,Value.tuple.injEq,Array.mk.injEq,List.cons.injEq,Value.int.injEq,Value.agg.injEq,Value.string.injEq] at this;obtain ⟨⟨_,rfl⟩,⟨⟨_,rfl⟩,⟨_,rfl⟩,rfl,_⟩,_⟩:=this;rfl
 clear tL
 unfold Tk.val
 have NZ:b<w1.heap.size:=by have:=(aa HG).size;omega
 have DV:W.heap.size<w1.heap.size:=by have h:=(zA (aa aV)).1;exact h
 replace aV:=ab (bL (aa aV) (.cells #[.int .i64 kt,.int .i64 pt,.string tt] 38))
 have aZ:=ab (aH (w1) (.cells #[.int .i64 kt,.int .i64 pt,.string tt] 38))
 replace HZ:=ab ((aa HZ).up ((zE _ _).alloc (zD _) (.cells #[.int .i64 kt,.int .i64 pt,.string tt] 38)))
 replace HG:=ab ((aa HG).trans (aO ((zE _ _).alloc (zD _) (.cells #[.int .i64 kt,.int .i64 pt,.string tt] 38)) (some b)))
 obtain ⟨⟨xC,xB,xA⟩,dp⟩:=dE (aa aV)
 have uu:=dp 0
 have ur:=dp 1
 have uq:=dp 2
 clear dp
 obtain ⟨⟨EZ,EY,EX⟩,mF⟩:=dE (aa aZ)
 have KQ:=mF 0
 have KP:=mF 1
 have KO:=mF 2
 clear mF
 go_upto_region 2 with fail
 go_cut [23] (fun v23 wx=>v23=.bool (decide (en=false∧(n<1∨536870911<n)))∧wx=w1.alloc (.cells #[.int .i64 kt,.int .i64 pt,.string tt] 38))
 case first =>
  cases en with
  |true =>
   have e3:decide (true=false∧(n<1∨536870911<n))=false:=decide_eq_false (fun q=>by cases q.1)
   go_wp2
   go_meet
   exact ⟨congrArg Value.bool e3.symm,rfl⟩
  |false =>
   by_cases g1:n<1
   ·have e1:decide (n<1)=true:=by simpa using g1
    have e3:decide (false=false∧(n<1∨536870911<n))=true:=decide_eq_true ⟨rfl,Or.inl g1⟩
    clear g1
    go_wp2
    go_meet
    exact ⟨congrArg Value.bool e3.symm,rfl⟩
   ·have e1:decide (n<1)=false:=by simpa using g1
    by_cases g2:536870911<n
    ·have e2:decide (536870911<n)=true:=by simpa using g2
     have e3:decide (false=false∧(n<1∨536870911<n))=true:=decide_eq_true ⟨rfl,Or.inr g2⟩
     clear g1 g2
     go_wp2
     go_meet
     exact ⟨congrArg Value.bool e3.symm,rfl⟩
    ·have e2:decide (536870911<n)=false:=by simpa using g2
     have e3:decide (false=false∧(n<1∨536870911<n))=false:=decide_eq_false (fun q=>q.2.elim g1 g2)
     clear g1 g2
     go_wp2
     go_meet
     exact ⟨congrArg Value.bool e3.symm,rfl⟩
 case rest =>
 obtain ⟨rfl,fP⟩:=hcut
 obtain ⟨w9,Ly⟩:∃x,x=wc:=⟨_,rfl⟩
 subst Ly
 rw[←fP] at HZ HG aV aZ
 clear xC xB xA uu ur uq EZ EY EX KQ KP KO
 clear fP
 obtain ⟨pb,Kw⟩:∃q,decide (en=false∧(n<1∨536870911<n))=q:=⟨_,rfl⟩
 rw[Kw]
 have WU:=ab Kw
 clear Kw
 obtain ⟨⟨xC,xB,xA⟩,dp⟩:=dE (aa aV)
 have uu:=dp 0
 have ur:=dp 1
 have uq:=dp 2
 clear dp
 obtain ⟨⟨EZ,EY,EX⟩,mF⟩:=dE (aa aZ)
 have KQ:=mF 0
 have KP:=mF 1
 have KO:=mF 2
 clear mF
 go_upto_if 23 with fail
 go_cut [] (fun wx=>Hid (World.grownBy (w9) wx (some b)∧Zr lo wx b (SN en n pt (aT (al R (jc en))))))
 case first =>
  cases pb with
  |true =>
   go_wp2_with fail
   refine (gV (aa HZ) 55 pt (by decide)).mono ?_
   rintro e w0 ⟨rfl,hg,hz⟩
   have HH:Hid (World.grownBy (w9) w0 (some b)∧Zr lo w0 b (SN en n pt (aT (al R (jc en))))):=⟨hg,by unfold SN;rw[if_pos (of_decide_eq_true (aa WU))];exact hz⟩
   clear hg hz
   go_wp2
   go_meet
   exact HH
  |false =>
   go_wp2
   go_meet
   exact ⟨zI _ _,by unfold SN;rw[if_neg (of_decide_eq_false (aa WU))];exact aa HZ⟩
 case rest =>
 obtain ⟨w2,fP⟩:∃x,x=wc:=⟨_,rfl⟩
 subst fP
 clear xC xB xA uu ur uq EZ EY EX KQ KP KO
 obtain ⟨hg,hz⟩:=aa hcut
 replace HZ:=ab hz
 replace aV:=ab (ax hg (aa aV) (by omega))
 replace aZ:=ab (ax hg (aa aZ) (by omega))
 replace HG:=ab ((aa HG).trans hg)
 clear hg hz hcut
 obtain ⟨p2,p3⟩:=SL (sp:=pt) (aa HV) rfl
 have P2:=ab p2
 have P3:=ab p3
 clear p2 p3 WU HV
 have F5:W.heap.size≠w1.heap.size:=by omega
 obtain ⟨⟨xC,xB,xA⟩,dp⟩:=dE (aa aV)
 have uu:=dp 0
 have ur:=dp 1
 have uq:=dp 2
 clear dp
 obtain ⟨⟨EZ,EY,EX⟩,mF⟩:=dE (aa aZ)
 have KQ:=mF 0
 have KP:=mF 1
 have KO:=mF 2
 clear mF
 obtain ⟨t1,t2,t3⟩:=Bj (aa HG) (aa HZ) cB.2 (zD _) (aa aV) (.int .i64 kt) (.int .i64 pt) (.string tt)
 have T1:=ab t1
 have T2:=ab t2
 have T3:=ab t3
 clear t1 t2 t3
 go_upto_region 4 with fail
 go_region
 go_wp2
 refine bodyPost_ret (mX rfl _ _ W.heap.size 38 #[.int .i64 kt,.int .i64 pt,.string tt] (0,0) _ rfl (aa T1) Tryz.underlying38 rfl lD) rfl ?_
 refine ⟨aa T2,by rw[←aa P2];exact aa T3,_,rfl,⟨n,⟨kt,pt,tt⟩,rfl⟩,fun a s e=>?_⟩
 rw[aa P3 a s e]
 rfl
def Vg (v:Value):Prop:=∃d:Fd,v=d.val
theorem BD {n:Int}{t:Tk}{a:Int×Tk} (h:(Value.tuple #[.int .i64 n,.agg #[.int .i64 t.kind,.int .i64 t.spot,.string t.text]])=YK a):a=(n,t):=by
 obtain ⟨m,⟨k,q,x⟩⟩:=a
 obtain ⟨k',q',x'⟩:=t
 simp only[YK,Tk.val,Value.tuple.injEq,Array.mk.injEq,List.cons.injEq,Value.int.injEq,Value.agg.injEq,Value.string.injEq] at h
 obtain ⟨⟨_,rfl⟩,⟨⟨_,rfl⟩,⟨_,rfl⟩,rfl,_⟩,_⟩:=h
 rfl
theorem abk {R:PX}{d:Fd}{x1:ByteArray}{n:Int}{t:Tk} (lz:lq (aT (al (aT (al R aR)) (au ⟨#[61]⟩))))
  (tL:∀a s,al R aR=.ok (a,s)→Value.string x1=.string a) (lv:∀a s,al (aT (al (aT (al R aR)) (au ⟨#[61]⟩))) (jc false)=.ok (a,s)→a=(n,t)) :
  aT (al (aT (al (aT (al (aT (al R aR)) (au ⟨#[61]⟩))) (jc false))) rL)=aT (al R (AL d))∧∀a s,al R (AL d)=.ok (a,s)→a={ d with name:=x1,num:=n }:=by
 match R,lz,tL,lv with
 |.error y,_,_,_=>exact ⟨rfl,fun _ _ e=>(by cases e)⟩
 |.ok s,lz,tL,lv =>
  simp only[al] at lz tL lv ⊢
  unfold AL dY
  cases h1:aR s with
  |error y=>exact ⟨rfl,fun _ _ e=>(by cases e)⟩
  |ok p1 =>
   obtain ⟨a1,s1⟩:=p1
   rw[h1] at lz tL lv
   have e1:x1=a1:=by simpa using tL a1 s1 rfl
   subst e1
   simp only[aT] at lz lv ⊢
   cases h2:au ⟨#[61]⟩ s1 with
   |error y=>exact ⟨rfl,fun _ _ e=>(by cases e)⟩
   |ok p2 =>
    obtain ⟨a2,s2⟩:=p2
    rw[h2] at lz lv
    simp only at lz lv ⊢
    have KE:s2.bg=false:=lz.bg
    rw[AK KE 0 2147483647 false (.inr ⟨rfl,by omega⟩) rfl]
    cases h3:jc false s2 with
    |error y=>exact ⟨rfl,fun _ _ e=>(by cases e)⟩
    |ok p3 =>
     obtain ⟨a3,s3⟩:=p3
     have e3:=lv a3 s3 h3
     subst e3
     simp only[Lw]
     unfold rL
     by_cases hq:aJ s3.here 4 ⟨#[91]⟩=true
     ·rw[if_pos hq,if_pos hq]
      exact ⟨rfl,fun _ _ e=>(by cases e)⟩
     ·rw[if_neg hq,if_neg hq]
      cases h4:au ⟨#[59]⟩ s3 with
      |error y=>exact ⟨rfl,fun _ _ e=>(by cases e)⟩
      |ok p4=>exact ⟨rfl,fun _ _ e=>(by cases e;rfl)⟩
theorem x7 {W w:World}{lo b g:Nat}{R:PX}{b0 b1 b2 b3 b4 b5:Value}{T:TypeId} (hg:W.grownBy w (some b)) (hz:Zr lo w b R) (hl:lo≤W.heap.size) (hW:W.heap.size≤g) (hr:w.heap[g]?=some (.cells #[b0,b1,b2,b3,b4,b5] T (0,0))) (a0 a1 a2 a3 a4 a5:Value) :
  (mv w g a0 a1 a2 a3 a4 a5).heap[g]?=some (.cells #[a0,a1,a2,a3,a4,a5] T (0,0))∧W.grownBy (mv w g a0 a1 a2 a3 a4 a5) (some b)∧Zr lo (mv w g a0 a1 a2 a3 a4 a5) b R:=by
 obtain ⟨h1,h2⟩:=gZ hr a0 a1 a2 a3 a4 a5
 exact ⟨h1,cx hg h2 hW,hz.gu h2 (Nat.le_trans hl hW)⟩
theorem Be {W:World}{lo b:Nat}{R:PX} (h:Zr lo W b R) (d:Fd):Calls Tryz.prog 131 #[.pointer (some ⟨b,0,none⟩),d.val] W (ZQ lo b W Fd.val Vg (al R (AL d))):=by
 obtain ⟨c0,k0,t0,n0,m0,o0⟩:=d
 have cB:=h.low
 have HZ:=ab h
 have HG:Hid (W.grownBy W (some b)):=zI _ _
 clear h
 unfold Fd.val Fd.arr
 simp only
 have Vl:b<W.heap.size:=by have:=(aa HG).size;omega
 have N3:W.heap.size≤W.heap.size:=by have:=(aa HG).size;omega
 have bF:=ab (aH (W) (.cells #[.int .i64 c0,.string k0,.string t0,.string n0,.int .i64 m0,.int .i64 o0] 45))
 replace HZ:=ab ((aa HZ).up ((zE _ _).alloc (zD _) (.cells #[.int .i64 c0,.string k0,.string t0,.string n0,.int .i64 m0,.int .i64 o0] 45)))
 replace HG:=ab ((aa HG).trans (aO ((zE _ _).alloc (zD _) (.cells #[.int .i64 c0,.string k0,.string t0,.string n0,.int .i64 m0,.int .i64 o0] 45)) (some b)))
 have Vm:b<W.heap.size+1:=by have:=(aa HG).size;simp only[zJ] at this;omega
 have AQ:W.heap.size≤W.heap.size+1:=by have:=(aa HG).size;simp only[zJ] at this;omega
 have adx:W.heap.size<W.heap.size+1:=by have h:=(zA (aa bF)).1;simp only[zJ] at h;exact h
 replace bF:=ab (bL (aa bF) (.cells #[.int .i64 0,.string ⟨#[]⟩,.string ⟨#[]⟩,.string ⟨#[]⟩,.int .i64 0,.int .i64 0] 45))
 have aV:=ab (aH (W.alloc (.cells #[.int .i64 c0,.string k0,.string t0,.string n0,.int .i64 m0,.int .i64 o0] 45)) (.cells #[.int .i64 0,.string ⟨#[]⟩,.string ⟨#[]⟩,.string ⟨#[]⟩,.int .i64 0,.int .i64 0] 45))
 replace aV:Hid (((W.alloc (.cells #[.int .i64 c0,.string k0,.string t0,.string n0,.int .i64 m0,.int .i64 o0] 45)).alloc (.cells #[.int .i64 0,.string ⟨#[]⟩,.string ⟨#[]⟩,.string ⟨#[]⟩,.int .i64 0,.int .i64 0] 45)).heap[W.heap.size+1]?=some (.cells #[.int .i64 0,.string ⟨#[]⟩,.string ⟨#[]⟩,.string ⟨#[]⟩,.int .i64 0,.int .i64 0] 45 (0,0))):=by have h:=aa aV;simp only[zJ] at h;exact h
 replace HZ:=ab ((aa HZ).up ((zE _ _).alloc (zD _) (.cells #[.int .i64 0,.string ⟨#[]⟩,.string ⟨#[]⟩,.string ⟨#[]⟩,.int .i64 0,.int .i64 0] 45)))
 replace HG:=ab ((aa HG).trans (aO ((zE _ _).alloc (zD _) (.cells #[.int .i64 0,.string ⟨#[]⟩,.string ⟨#[]⟩,.string ⟨#[]⟩,.int .i64 0,.int .i64 0] 45)) (some b)))
 go_enter Tryz.func131,Tryz.ntmps131
 have Gx:=seen (aa bF)
 have Gh:=aS (aa bF)
 have qC:=seen (aa aV)
 have qu:=aS (aa aV)
 go_wp2_with fail
 refine (lB (aa HZ)).mono ?_
 rintro e w1 ⟨hg,hz,v1,rfl,F2,tL⟩
 clear Gx Gh qC qu
 replace HZ:=ab hz
 replace bF:=ab (ax hg (aa bF) (by omega))
 replace aV:=ab (ax hg (aa aV) (by omega))
 replace HG:=ab ((aa HG).trans hg)
 clear hg hz
 obtain ⟨x1,rfl,jo⟩:=F2
 have HV1:=ab tL
 clear tL jo
 have Gw:=seen (aa bF)
 have Gg:=aS (aa bF)
 have qB:=seen (aa aV)
 have qt:=aS (aa aV)
 obtain ⟨k1,g1⟩:=aC (j:=3) (aa bF) (.string x1)
 replace aV:=ab (ax g1 (aa aV) (by omega))
 replace bF:Hid ((w1.setCell ⟨W.heap.size,3,none⟩ (.string x1)).heap[W.heap.size]?=some (.cells #[.int .i64 c0,.string k0,.string t0,.string x1,.int .i64 m0,.int .i64 o0] 45 (0,0))):=k1
 replace HZ:=ab ((aa HZ).gu g1 (by omega))
 replace HG:=ab (cx (aa HG) g1 (by omega))
 clear k1 g1
 have K5:=seen (aa bF)
 have KN:=aS (aa bF)
 have rQ:=seen (aa aV)
 have rG:=aS (aa aV)
 go_wp2_with fail
 refine (eW (aa HZ) ⟨#[61]⟩).mono ?_
 rintro e w2 ⟨hg,hz,v2,rfl,BT,zz⟩
 clear Gw Gg qB qt K5 KN rQ rG
 replace HZ:=ab hz
 replace bF:=ab (ax hg (aa bF) (by omega))
 replace aV:=ab (ax hg (aa aV) (by omega))
 replace HG:=ab ((aa HG).trans hg)
 clear hg hz
 obtain rfl:=BT
 clear zz
 have S4:=ab (aa HZ).2
 have Cg:=seen (aa bF)
 have B1:=aS (aa bF)
 have oM:=seen (aa aV)
 have oD:=aS (aa aV)
 go_wp2_with fail
 refine (si (aa HZ) false).mono ?_
 rintro e w3 ⟨hg,hz,v3,rfl,ni,lv⟩
 clear Cg B1 oM oD
 replace HZ:=ab hz
 replace bF:=ab (ax hg (aa bF) (by omega))
 replace aV:=ab (ax hg (aa aV) (by omega))
 replace HG:=ab ((aa HG).trans hg)
 clear hg hz
 obtain ⟨n,⟨kt,pt,tt⟩,rfl⟩:=ni
 have Uj:Hid (∀a s,al (aT (al (aT (al R aR)) (au ⟨#[61]⟩))) (jc false)=.ok (a,s)→a=(n,(⟨kt,pt,tt⟩:Tk))):=fun a s e=>BD (lv a s e)
 clear lv
 unfold Tk.val
 have y9:=seen (aa bF)
 have yX:=aS (aa bF)
 have oL:=seen (aa aV)
 have oC:=aS (aa aV)
 obtain ⟨k1,g1⟩:=aC (j:=4) (aa bF) (.int .i64 n)
 replace aV:=ab (ax g1 (aa aV) (by omega))
 replace bF:Hid ((w3.setCell ⟨W.heap.size,4,none⟩ (.int .i64 n)).heap[W.heap.size]?=some (.cells #[.int .i64 c0,.string k0,.string t0,.string x1,.int .i64 n,.int .i64 o0] 45 (0,0))):=k1
 replace HZ:=ab ((aa HZ).gu g1 (by omega))
 replace HG:=ab (cx (aa HG) g1 (by omega))
 clear k1 g1
 have sY:=seen (aa bF)
 have sU:=aS (aa bF)
 have qA:=seen (aa aV)
 have qs:=aS (aa aV)
 go_wp2_with fail
 refine (G6 (aa HZ)).mono ?_
 rintro e w4 ⟨hg,hz,v4,rfl,qi,qI⟩
 clear y9 yX oL oC sY sU qA qs
 replace HZ:=ab hz
 replace bF:=ab (ax hg (aa bF) (by omega))
 replace aV:=ab (ax hg (aa aV) (by omega))
 replace HG:=ab ((aa HG).trans hg)
 clear hg hz
 obtain rfl:=qi
 clear qI
 obtain ⟨p2,p3⟩:=abk (d:=⟨c0,k0,t0,n0,m0,o0⟩) (aa S4) (aa HV1) (aa Uj)
 have P2:=ab p2
 have P3:=ab p3
 clear p2 p3 HV1 Uj S4
 have F5:W.heap.size≠W.heap.size+1:=by omega
 have Gv:=seen (aa bF)
 have Gf:=aS (aa bF)
 have Gy:=seen (aa aV)
 have Gk:=aS (aa aV)
 obtain ⟨t1,t2,t3⟩:=x7 (aa HG) (aa HZ) cB.2 AQ (aa aV) (.int .i64 c0) (.string k0) (.string t0) (.string x1) (.int .i64 n) (.int .i64 o0)
 have T1:=ab t1
 have T2:=ab t2
 have T3:=ab t3
 clear t1 t2 t3
 go_wp2
 refine bodyPost_ret (results_cell_row rfl _ _ (W.heap.size+1) 45 #[.int .i64 c0,.string k0,.string t0,.string x1,.int .i64 n,.int .i64 o0] (0,0) _ rfl (aa T1) Tryz.underlying45 rfl kp) rfl ?_
 refine ⟨aa T2,by rw[←aa P2];exact aa T3,_,rfl,⟨⟨c0,k0,t0,x1,n,o0⟩,rfl⟩,fun a s e=>?_⟩
 rw[aa P3 a s e]
def ll (ct:Bool) (s:ay):ay:=if ct=true then s.begun else s
noncomputable def gR (da ct:Bool) (s:ay):Except (Int×Int) (ByteArray×ay):=match (if da=true then bX 4 ⟨#[46]⟩ (ll ct s) else .ok (false,ll ct s)) with
 |.error e=>.error e
 |.ok (d,s1)=>match aR s1 with
  |.error e=>.error e
  |.ok (x,s2)=>.ok ((if d=true then (⟨#[46]⟩:ByteArray)++x else x),s2)
theorem zh (x y:ByteArray):(x++y).data.toList=x.data.toList++y.data.toList:=by simp
theorem PN (ct:Bool) (s:ay):(ll ct s).here=s.here:=by unfold ll;split<;>rfl
theorem tO (da ct:Bool) (s:ay):ba da (ll ct s)=match gR da ct s with
 |.error e=>.error e
 |.ok (x,s2)=>oH s.here.spot (dz (s2.ts.length+1) x.data.toList s2):=by
 unfold ba gR iu
 rw[PN]
 cases h1:(if da=true then bX 4 ⟨#[46]⟩ (ll ct s) else .ok (false,ll ct s)) with
 |error y=>rfl
 |ok p =>
  obtain ⟨d,s1⟩:=p
  simp only
  cases h2:aR s1 with
  |error y=>rfl
  |ok q =>
   obtain ⟨x,s2⟩:=q
   simp only
   cases d with
   |true=>simp only[if_true,zh]
   |false=>simp
theorem On {da ct:Bool}{s:ay} (hg:Gd s) (hq:(da&&aJ s.here 4 ⟨#[46]⟩)=true):gR da ct s=bO (if ct=true then aP s.here.spot s else .ok ((),s)) (fun _ s1=>bO (aR s1.nx) (fun x s2=>.ok ((⟨#[46]⟩:ByteArray)++x,s2))):=by
 rw[Bool.and_eq_true] at hq
 unfold gR ll
 rw[if_pos hq.1]
 cases ct with
 |true =>
  rw[if_pos rfl,if_pos rfl,yh hg,if_pos hq.2]
  cases hb:aP s.here.spot s with
  |error y=>rfl
  |ok p =>
   rw[aL,aL]
   simp only
   cases hn:aR p.2.nx with
   |error y=>rfl
   |ok q=>rfl
 |false =>
  rw[if_neg Bool.false_ne_true,if_neg Bool.false_ne_true,cV hg.bg,if_pos hq.2,aL]
  simp only
  cases hn:aR s.nx with
  |error y=>rfl
  |ok q=>rfl
theorem IH {da ct:Bool}{s:ay} (hg:Gd s) (hq:(da&&aJ s.here 4 ⟨#[46]⟩)=false):gR da ct s=bO (aR s) (fun x s1=>bO (if ct=true then aP s.here.spot s1 else .ok ((),s1)) (fun _ s2=>.ok (x,s2))):=by
 have h0:(if da=true then bX 4 ⟨#[46]⟩ (ll ct s) else .ok (false,ll ct s))=(.ok (false,ll ct s):Except (Int×Int) (Bool×ay)):=by
  cases da with
  |false=>rfl
  |true =>
   have lG:¬aJ s.here 4 ⟨#[46]⟩=true:=by rw[Bool.true_and] at hq;rw[hq];decide
   rw[if_pos rfl]
   unfold ll
   cases ct with
   |true=>rw[if_pos rfl,yh hg,if_neg lG]
   |false=>rw[if_neg Bool.false_ne_true,cV hg.bg,if_neg lG]
 unfold gR
 rw[h0]
 simp only
 unfold ll
 cases ct with
 |true =>
  rw[if_pos rfl,Ds hg]
  cases hn:aR s with
  |error y=>rfl
  |ok q =>
   rw[aL,aL,if_pos rfl]
   cases hb:aP s.here.spot q.2 with
   |error y=>rfl
   |ok p=>rfl
 |false =>
  rw[if_neg Bool.false_ne_true]
  cases hn:aR s with
  |error y=>rfl
  |ok q=>rfl
def nA (ct:Bool) (sp:Int) (s:ay):Except (Int×Int) (Unit×ay):=if ct=true then aP sp s else .ok ((),s)
def AV (da ct:Bool) (R:PX) (x:ByteArray):Prop:=x.size≤200000000000000∧∀a s,al R (gR da ct)=.ok (a,s)→x=a∧a.size≤256
theorem Wx {ct:Bool}{sp:Int}{s s1:ay}{u:Unit} (h:nA ct sp s=.ok (u,s1)):s1.ts=s.ts:=by
 unfold nA aP at h
 split at h
 ·split at h
  ·cases h
  ·cases h;rfl
 ·cases h;rfl
theorem VJ {da ct:Bool}{s:ay}{pt:Int}{x1:ByteArray} (hg:Gd s) (hq:(da&&aJ s.here 4 ⟨#[46]⟩)=true) (ht:pt=s.here.spot) (hx:x1.size≤140737488355327) (hv:∀a s',al (kK (aT (al (.ok s) (nA ct pt)))) aR=.ok (a,s')→Value.string x1=.string a) :
  aT (al (kK (aT (al (.ok s) (nA ct pt)))) aR)=aT (al (.ok s) (gR da ct))∧AV da ct (.ok s) ((⟨#[46]⟩:ByteArray)++x1):=by
 subst ht
 have hE:=On (ct:=ct) hg hq
 have ck:((⟨#[46]⟩:ByteArray)++x1).size=1+x1.size:=ByteArray.size_append
 unfold AV
 rw[ck]
 show _=aT (gR da ct s)∧_∧∀a s',gR da ct s=.ok (a,s')→_
 rw[hE,show (if ct=true then aP s.here.spot s else .ok ((),s))=nA ct s.here.spot s from rfl]
 rw[show al (.ok s) (nA ct s.here.spot)=nA ct s.here.spot s from rfl] at hv ⊢
 cases hb:nA ct s.here.spot s with
 |error y=>exact ⟨rfl,by omega,fun _ _ e=>(by cases e)⟩
 |ok p =>
  rw[hb] at hv
  rw[aL]
  rw[show al (kK (aT (.ok p))) aR=aR p.2.nx from rfl] at hv ⊢
  cases hn:aR p.2.nx with
  |error y=>exact ⟨rfl,by omega,fun _ _ e=>(by cases e)⟩
  |ok q =>
   have e1:x1=q.1:=by simpa using hv q.1 q.2 hn
   have e2:=(jz hn).2.1
   refine ⟨rfl,by omega,fun a s' e=>?_⟩
   cases e
   refine ⟨by rw[e1],?_⟩
   rw[←e1,ck]
   rw[←e1] at e2
   omega
theorem ZY {da ct:Bool}{R:PX}{pt:Int}{k:Int}{tx:ByteArray}{x1:ByteArray} (hg:lq R) (hq:(da&&fU R 4 ⟨#[46]⟩)=false) (hp:EF R ⟨k,pt,tx⟩) (hx:x1.size≤140737488355327) (hv:∀a s',al R aR=.ok (a,s')→Value.string x1=.string a) :
  aT (al (aT (al R aR)) (nA ct pt))=aT (al R (gR da ct))∧AV da ct R x1:=by
 unfold AV
 match R,hg,hq,hp,hv with
 |.error y,_,_,_,_=>exact ⟨rfl,by omega,fun _ _ e=>(by cases e)⟩
 |.ok s,hg,hq,hp,hv =>
  have ht:pt=s.here.spot:=hp.2.1
  subst ht
  have hE:=IH (ct:=ct) hg hq
  show _=aT (gR da ct s)∧_∧∀a s',gR da ct s=.ok (a,s')→_
  rw[hE]
  rw[show al (.ok s) aR=aR s from rfl] at hv ⊢
  cases hn:aR s with
  |error y=>exact ⟨rfl,by omega,fun _ _ e=>(by cases e)⟩
  |ok q =>
   have e1:x1=q.1:=by simpa using hv q.1 q.2 hn
   have e2:=(jz hn).2.1
   rw[aL]
   show aT (nA ct s.here.spot q.2)=aT (bO (nA ct s.here.spot q.2) _)∧_∧∀a s',bO (nA ct s.here.spot q.2) _=.ok (a,s')→_
   cases hb:nA ct s.here.spot q.2 with
   |error y=>exact ⟨rfl,by omega,fun _ _ e=>(by cases e)⟩
   |ok p =>
    refine ⟨rfl,by omega,fun a s' e=>?_⟩
    cases e
    exact ⟨e1,by omega⟩
def mR:PX→Nat
 |.ok s=>s.ts.length+1
 |.error _=>0
def SR (sp:Int) (F0:Except (Int×Int) (ByteArray×ay)) (x:ByteArray) (R:PX):Prop:=x.size≤400000000000000∧match R with
 |.ok s=>x.size+300*s.ts.length≤10000000∧∃f,s.ts.length<f∧F0=oH sp (dz f x.data.toList s)
 |.error y=>F0=.error y
theorem SR.start {da ct:Bool}{R:PX}{k sp:Int}{tx x:ByteArray} (hg:lq R) (hp:EF R ⟨k,sp,tx⟩) (h:AV da ct R x):SR sp (al R (fun s=>ba da (ll ct s))) x (aT (al R (gR da ct))):=by
 refine ⟨by have:=h.1;omega,?_⟩
 match R,hg,hp,h with
 |.error y,_,_,_=>exact rfl
 |.ok s,hg,hp,h =>
  have ht:sp=s.here.spot:=hp.2.1
  subst ht
  show match aT (gR da ct s) with
   |.ok s'=>_
   |.error y=>ba da (ll ct s)=.error y
  have hd:=tO da ct s
  cases hh:gR da ct s with
  |error y=>rw[hh] at hd;exact hd
  |ok q =>
   rw[hh] at hd
   obtain ⟨e1,e2⟩:=h.2 q.1 q.2 hh
   have hl:q.2.ts.length≤16384:=by
    have hs:jk (ll ct s) q.2:=by
     unfold gR at hh
     cases h1:(if da=true then bX 4 ⟨#[46]⟩ (ll ct s) else .ok (false,ll ct s)) with
     |error y=>rw[h1] at hh;cases hh
     |ok p =>
      rw[h1] at hh
      obtain ⟨d,s1⟩:=p
      simp only at hh
      have nJ:jk (ll ct s) s1:=by
       split at h1
       ·exact dQ h1
       ·cases h1;exact .refl _
      cases h2:aR s1 with
      |error y=>rw[h2] at hh;cases hh
      |ok r =>
       rw[h2] at hh
       obtain ⟨x',s2⟩:=r
       simp only[Except.ok.injEq] at hh
       rw[←hh]
       exact nJ.trans (gm h2).gi
    have:=hs.len
    have h3:=hg.len
    have h4:(ll ct s).ts=s.ts:=by unfold ll;split<;>rfl
    rw[h4] at this
    omega
   show x.size+300*q.2.ts.length≤10000000∧∃f,q.2.ts.length<f∧ba da (ll ct s)=_
   exact ⟨by rw[e1];omega,q.2.ts.length+1,by omega,by rw[e1];exact hd⟩
theorem SR.step {sp:Int}{F0:Except (Int×Int) (ByteArray×ay)}{x x1:ByteArray}{s:ay} (hg:Gd s) (h:SR sp F0 x (.ok s)) (hq:aJ s.here 4 ⟨#[46]⟩=true) (hx:x1.size≤140737488355327) (hv:∀a s',al (kK (.ok s)) aR=.ok (a,s')→Value.string x1=.string a):SR sp F0 (x++(⟨#[46]⟩:ByteArray)++x1) (aT (al (kK (.ok s)) aR))∧mR (aT (al (kK (.ok s)) aR))<mR (.ok s):=by
 obtain ⟨h1,h2,f,hf,h3⟩:=h
 have ck:(x++(⟨#[46]⟩:ByteArray)++x1).size=x.size+1+x1.size:=by rw[ByteArray.size_append,ByteArray.size_append];rfl
 have dL:=eR hg.en hq (by decide)
 have LA:s.nx.ts.length=s.ts.length-1:=List.length_tail
 obtain ⟨g,rfl⟩:∃g,f=g+1:=⟨f-1,by omega⟩
 rw[show dz (g+1) x.data.toList s=(match bX 4 ⟨#[46]⟩ s with|.error e=>.error e|.ok (false,s1)=>.ok (x.data.toList,s1)|.ok (true,s1)=>match aR s1 with|.error e=>.error e|.ok (y,s2)=>dz g ((x.data.toList++[46])++y.data.toList) s2) from rfl,cV hg.bg,if_pos hq] at h3
 simp only at h3
 rw[show al (kK (.ok s)) aR=aR s.nx from rfl] at hv ⊢
 cases hn:aR s.nx with
 |error y =>
  rw[hn] at h3
  exact ⟨⟨by omega,h3⟩,by show 0<s.ts.length+1;omega⟩
 |ok q =>
  rw[hn] at h3
  obtain ⟨y,s2⟩:=q
  have e1:x1=y:=by simpa using hv y s2 hn
  subst e1
  have e2:=(jz hn).2.1
  have e3:=(gm hn).gi.len
  refine ⟨⟨by omega,by rw[ck];show _+300*s2.ts.length≤_;omega,g,by show s2.ts.length<g;omega,?_⟩,by show s2.ts.length+1<s.ts.length+1;omega⟩
  rw[zh,zh]
  exact h3
def YL (sp:Int) (x:ByteArray) (R:PX):PX:=if 255<x.size then mL 2 sp R else R
theorem SR.fin {sp:Int}{F0:Except (Int×Int) (ByteArray×ay)}{x:ByteArray}{R:PX} (hg:lq R) (h:SR sp F0 x R) (hq:fU R 4 ⟨#[46]⟩=false):YL sp x R=aT F0∧∀a s,F0=.ok (a,s)→x=a:=by
 match R,hg,h,hq with
 |.error y,_,h,_ =>
  rw[show F0=.error y from h.2]
  exact ⟨by unfold YL;split<;>rfl,fun _ _ e=>(by cases e)⟩
 |.ok s,hg,⟨_,_,f,hf,h3⟩,hq =>
  obtain ⟨g,rfl⟩:∃g,f=g+1:=⟨f-1,by omega⟩
  have lG:¬aJ s.here 4 ⟨#[46]⟩=true:=by rw[show aJ s.here 4 ⟨#[46]⟩=false from hq];decide
  rw[show dz (g+1) x.data.toList s=(match bX 4 ⟨#[46]⟩ s with|.error e=>.error e|.ok (false,s1)=>.ok (x.data.toList,s1)|.ok (true,s1)=>match aR s1 with|.error e=>.error e|.ok (y,s2)=>dz g ((x.data.toList++[46])++y.data.toList) s2) from rfl,cV hg.bg,if_neg lG] at h3
  have h4:F0=if 255<x.size then .error (2,sp) else .ok (x,s):=h3
  rw[h4]
  unfold YL
  by_cases hc:255<x.size
  ·rw[if_pos hc,if_pos hc]
   exact ⟨rfl,fun _ _ e=>(by cases e)⟩
  ·rw[if_neg hc,if_neg hc]
   exact ⟨rfl,fun _ _ e=>(by cases e;rfl)⟩
def Tr (v:Value):Prop:=∃x:ByteArray,v=.string x
theorem me {W:World}{lo b:Nat}{R:PX} (h:Zr lo W b R) (da ct:Bool):Calls Tryz.prog 37 #[.pointer (some ⟨b,0,none⟩),.bool da,.bool ct] W (ZQ lo b W Value.string Tr (al R (fun s=>ba da (ll ct s)))):=by
 have cB:=h.low
 have l9:Hid (lq R):=h.2
 have HZ:=ab h
 have HG:Hid (W.grownBy W (some b)):=zI _ _
 clear h
 go_enter Tryz.func37,Tryz.ntmps37
 go_wp2_with fail
 refine (gf (aa HZ)).mono ?_
 rintro e w1 ⟨⟨kt,pt,tt⟩,rfl,hb,hp⟩
 have pB:=ab hp
 replace HZ:=ab ((aa HZ).up hb)
 have hg:=aO hb (some b)
 replace HG:=ab ((aa HG).trans hg)
 clear hb hp hg
 unfold Tk.val
 have NZ:b<w1.heap.size:=by have:=(aa HG).size;omega
 have RN:W.heap.size≤w1.heap.size:=by have:=(aa HG).size;omega
 have aZ:=ab (aH (w1) (.cells #[.int .i64 kt,.int .i64 pt,.string tt] 38))
 replace HZ:=ab ((aa HZ).up ((zE _ _).alloc (zD _) (.cells #[.int .i64 kt,.int .i64 pt,.string tt] 38)))
 replace HG:=ab ((aa HG).trans (aO ((zE _ _).alloc (zD _) (.cells #[.int .i64 kt,.int .i64 pt,.string tt] 38)) (some b)))
 have Ch:=seen (aa aZ)
 have B2:=aS (aa aZ)
 go_upto_region 3 with fail
 go_cut [15] (fun v15 wx=>v15=.bool (da&&fU R 4 ⟨#[46]⟩)∧Hid (Below (w1.alloc (.cells #[.int .i64 kt,.int .i64 pt,.string tt] 38)).heap.size (w1.alloc (.cells #[.int .i64 kt,.int .i64 pt,.string tt] 38)) wx))
 case first =>
  cases da with
  |false =>
   go_wp2
   go_meet
   exact ⟨rfl,zE _ _⟩
  |true =>
   go_wp2_with fail
   refine (iw (aa HZ) 4 (by decide) ⟨#[46]⟩).mono ?_
   rintro e w0 ⟨rfl,hb⟩
   have HB:=ab hb
   clear hb
   go_wp2
   go_meet
   exact ⟨rfl,HB⟩
 case rest =>
 obtain ⟨w2,fP⟩:∃x,x=wc:=⟨_,rfl⟩
 subst fP
 obtain ⟨rfl,hb⟩:=hcut
 replace HZ:=ab ((aa HZ).up (aa hb))
 have hg:=aO (aa hb) (some b)
 clear Ch B2
 replace aZ:=ab (ax hg (aa aZ) (by omega))
 replace HG:=ab ((aa HG).trans hg)
 clear hg hb
 obtain ⟨q,hq⟩:∃q,(da&&fU R 4 ⟨#[46]⟩)=q:=⟨_,rfl⟩
 rw[hq]
 have jx:=ab hq
 clear hq
 have lY:=seen (aa aZ)
 have lU:=aS (aa aZ)
 go_upto_if 15 with fail
 go_cut [8] (fun v8 wx=>∃x,v8=.string x∧Hid (AV da ct R x)∧Hid (World.grownBy (w2) wx (some b)∧Zr lo wx b (aT (al R (gR da ct)))))
 case first =>
  cases q with
  |true =>
   have hq:=aa jx
   rw[Bool.and_eq_true] at hq
   obtain ⟨s,rfl,hs⟩:=fB hq.2
   have HS:Hid ((da&&aJ s.here 4 ⟨#[46]⟩)=true):=aa jx
   have hpt:pt=s.here.spot:=(aa pB).2.1
   have HPP:=ab hpt
   clear hq hpt hs
   have HK:Hid (World.grownBy (w2) (w2) (some b)):=zI _ _
   go_upto_if 16 with fail
   go_cut [] (fun wx=>Hid (World.grownBy (w2) wx (some b)∧Zr lo wx b (aT (al (.ok s) (nA ct pt)))))
   case first =>
    cases ct with
    |false =>
     go_wp2
     go_meet
     exact ⟨zI _ _,aa HZ⟩
    |true =>
     go_wp2_with fail
     refine (eu (aa HZ) ⟨kt,pt,tt⟩).mono ?_
     rintro e w0 ⟨hg,hz,v0,rfl,mD,-⟩
     obtain rfl:=mD
     have HH:Hid (World.grownBy (w2) w0 (some b)∧Zr lo w0 b (aT (al (.ok s) (nA true pt)))):=⟨hg,hz⟩
     clear hg hz
     go_wp2
     go_meet
     exact HH
   case rest =>
   obtain ⟨w3,fP⟩:∃x,x=wc:=⟨_,rfl⟩
   subst fP
   clear lY lU
   obtain ⟨hg,hz⟩:=aa hcut
   replace HK:=ab ((aa HK).trans hg)
   replace HZ:=ab hz
   replace aZ:=ab (ax hg (aa aZ) (by omega))
   replace HG:=ab ((aa HG).trans hg)
   clear hg hz hcut
   obtain ⟨i,ci,fi,bD,hi⟩:=(aa HZ).next (fun s' e=>by
    cases hb:nA ct pt s with
    |error y=>rw[show al (.ok s) (nA ct pt)=nA ct pt s from rfl,hb] at e;cases e
    |ok p =>
     rw[show al (.ok s) (nA ct pt)=nA ct pt s from rfl,hb] at e
     cases e
     rw[Wx hb]
     have hq:=aa HS
     rw[Bool.and_eq_true] at hq
     exact eR (aa l9).en hq.2 (by decide))
   obtain ⟨g1,z1⟩:=bD (wrap64 (i+1)) (fun s e=>eJ (hi s e))
   replace HZ:=ab z1
   replace HK:=ab ((aa HK).trans g1)
   clear z1 g1 bD hi
   go_wp2_with fail
   refine (lB (aa HZ)).mono ?_
   rintro e w4 ⟨hg,hz,v,rfl,⟨x1,rfl,jo⟩,hv⟩
   replace HK:=ab ((aa HK).trans hg)
   obtain ⟨e1,e2⟩:=VJ (aa l9) (aa HS) (aa HPP) jo hv
   have HH:Hid (World.grownBy (w2) w4 (some b)∧Zr lo w4 b (aT (al (.ok s) (gR da ct)))):=⟨aa HK,by rw[←e1];exact hz⟩
   have E2:=ab e2
   clear hg hz hv e1 e2 ci fi
   go_wp2
   go_meet
   exact ⟨_,rfl,E2,HH⟩
  |false =>
   go_wp2_with fail
   refine (lB (aa HZ)).mono ?_
   rintro e w3 ⟨hg,hz,v,rfl,⟨x1,rfl,jo⟩,hv⟩
   clear lY lU
   obtain ⟨e1,e2⟩:=ZY (da:=da) (ct:=ct) (aa l9) (aa jx) (aa pB) jo hv
   have E1:=ab e1
   have E2:=ab e2
   have HK:=ab hg
   replace HZ:=ab hz
   replace aZ:=ab (ax hg (aa aZ) (by omega))
   replace HG:=ab ((aa HG).trans hg)
   clear hg hz hv jo e1 e2
   have oK:=seen (aa aZ)
   have oA:=aS (aa aZ)
   go_upto_if 32 with fail
   go_cut [] (fun wx=>Hid (World.grownBy (w3) wx (some b)∧Zr lo wx b (aT (al (aT (al R aR)) (nA ct pt)))))
   case first =>
    cases ct with
    |false =>
     go_wp2
     go_meet
     exact ⟨zI _ _,by
      have:=aa HZ
      cases hr:aT (al R aR) with
      |error y=>rw[hr] at this;exact this
      |ok s'=>rw[hr] at this;exact this⟩
    |true =>
     go_wp2_with fail
     refine (eu (aa HZ) ⟨kt,pt,tt⟩).mono ?_
     rintro e w0 ⟨hg,hz,v0,rfl,mD,-⟩
     obtain rfl:=mD
     have HH:Hid (World.grownBy (w3) w0 (some b)∧Zr lo w0 b (aT (al (aT (al R aR)) (nA true pt)))):=⟨hg,hz⟩
     clear hg hz
     go_wp2
     go_meet
     exact HH
   case rest =>
   clear oK oA
   obtain ⟨hg,hz⟩:=aa hcut
   have HH:Hid (World.grownBy (w2) wc (some b)∧Zr lo wc b (aT (al R (gR da ct)))):=⟨(aa HK).trans hg,by rw[←aa E1];exact hz⟩
   clear hg hz hcut
   go_wp2
   go_meet
   exact ⟨_,rfl,E2,HH⟩
 case rest =>
 obtain ⟨w10,fP⟩:∃x,x=wc:=⟨_,rfl⟩
 subst fP
 clear lY lU
 obtain ⟨x,rfl,hx,hrel⟩:=hcut
 obtain ⟨hg,hz⟩:=aa hrel
 replace HZ:=ab hz
 replace aZ:=ab (ax hg (aa aZ) (by omega))
 replace HG:=ab ((aa HG).trans hg)
 have HJ:=ab (SR.start (aa l9) (aa pB) (aa hx))
 clear hg hz hrel hx jx l9 pB
 obtain ⟨F0,sP⟩:∃F0,F0=al R (fun s=>ba da (ll ct s)):=⟨_,rfl⟩
 rw[←sP] at HJ
 have E5:=ab sP
 clear sP
 obtain ⟨R1,TM⟩:∃R1,R1=aT (al R (gR da ct)):=⟨_,rfl⟩
 rw[←TM] at HJ HZ
 clear TM
 go_wp2
 go_loopg [8] (mR R1) (fun gk v8 wr=>∃(y:ByteArray) (Rk:PX),v8=.string y∧gk=mR Rk∧Hid (SR pt F0 y Rk)∧Hid (Zr lo wr b Rk)∧Hid (W.grownBy wr (some b))∧Hid (wr.heap[w1.heap.size]?=some (.cells #[.int .i64 kt,.int .i64 pt,.string tt] 38 (0,0))))
 case atStart=>exact ⟨x,R1,rfl,rfl,HJ,HZ,HG,aZ⟩
 case round =>
  clear HJ HZ HG aZ
  obtain ⟨y,Rk,rfl,eG,HJ,HZ,HG,aZ⟩:=hrel
  have zu:=ab eG
  clear eG
  obtain ⟨er,SH,her⟩:=(aa HZ).err
  go_upto_region 11 with fail
  go_cut [44] from 36 to 56 (fun v44 wx=>v44=.bool (fU Rk 4 ⟨#[46]⟩)∧Hid (Below wr.heap.size wr wx))
  case first =>
   cases Rk with
   |error y =>
    replace her:(er==0)=false:=her
    go_wp2
    go_meet
    exact ⟨rfl,zE _ _⟩
   |ok s =>
    replace her:(er==0)=true:=her
    go_wp2_with fail
    refine (iw (aa HZ) 4 (by decide) ⟨#[46]⟩).mono ?_
    rintro e w0 ⟨rfl,hb⟩
    have HB:=ab hb
    clear hb
    go_wp2
    go_meet
    exact ⟨rfl,HB⟩
  case rest =>
  obtain ⟨w11,fP⟩:∃x,x=wc:=⟨_,rfl⟩
  subst fP
  obtain ⟨rfl,hb⟩:=hcut
  replace HZ:=ab ((aa HZ).up (aa hb))
  have hg:=aO (aa hb) (some b)
  replace aZ:=ab (ax hg (aa aZ) (by omega))
  replace HG:=ab ((aa HG).trans hg)
  clear hg hb SH her
  obtain ⟨q,hq⟩:∃q,fU Rk 4 ⟨#[46]⟩=q:=⟨_,rfl⟩
  rw[hq]
  have jx:=ab hq
  clear hq
  cases q with
  |true =>
   obtain ⟨s,rfl,hs⟩:=fB (aa jx)
   have HS:=ab hs
   obtain ⟨i,ci,fi,bD,hi⟩:=(aa HZ).next (fun s' e=>by cases e;exact eR (aa HZ).2.en hs (by decide))
   obtain ⟨g1,z1⟩:=bD (wrap64 (i+1)) (fun s e=>eJ (hi s e))
   have l9:=ab (aa HZ).2
   replace HZ:=ab z1
   replace aZ:=ab (ax g1 (aa aZ) (by omega))
   replace HG:=ab ((aa HG).trans g1)
   clear g1 z1 bD hi hs
   have hy0:=(aa HJ).1
   go_wp2_with fail
   refine (lB (aa HZ)).mono ?_
   rintro e JD ⟨hg,hz,v,rfl,⟨x1,rfl,jo⟩,hv⟩
   obtain ⟨j1,j2⟩:=(aa HJ).step (aa l9) (aa HS) jo hv
   have HJ2:=ab j1
   have HM:=ab j2
   replace HZ:=ab hz
   replace aZ:=ab (ax hg (aa aZ) (by omega))
   replace HG:=ab ((aa HG).trans hg)
   clear hg hz hv j1 j2 ci fi HJ l9
   go_wp2
   go_roundg (mR (aT (al (kK (.ok s)) aR)))
   case measure=>have:=aa zu;have:=aa HM;omega
   case rel=>exact ⟨_,aT (al (kK (.ok s)) aR),rfl,rfl,HJ2,HZ,HG,aZ⟩
  |false =>
   obtain ⟨p2,p3⟩:=(aa HJ).fin (aa HZ).2 (aa jx)
   have P2:=ab p2
   have P3:=ab p3
   clear p2 p3
   have oK:=seen (aa aZ)
   have oA:=aS (aa aZ)
   by_cases hc:255<y.size
   ·have e1:decide ((255:Int)<(y.size:Int))=true:=by simp;omega
    have HC:=ab hc
    clear hc
    go_wp2_with fail
    refine (gV (aa HZ) 2 pt (by decide)).mono ?_
    rintro e JD ⟨rfl,hg,hz⟩
    have HH:Hid (W.grownBy JD (some b)∧Zr lo JD b (aT F0)):=⟨(aa HG).trans hg,by rw[←aa P2];unfold YL;rw[if_pos (aa HC)];exact hz⟩
    clear hg hz
    go_wp2
    go_ret
    rw[←aa E5]
    exact ⟨(aa HH).1,(aa HH).2,_,rfl,⟨_,rfl⟩,fun a s e=>by rw[←aa P3 a s e];rfl⟩
   ·have e1:decide ((255:Int)<(y.size:Int))=false:=by simp;omega
    have HC:=ab hc
    clear hc
    go_wp2
    go_ret
    rw[←aa E5]
    exact ⟨aa HG,by rw[←aa P2];unfold YL;rw[if_neg (aa HC)];exact aa HZ,_,rfl,⟨_,rfl⟩,fun a s e=>by rw[←aa P3 a s e];rfl⟩
end Go.Proofs.YtjophoclfccmcaaGreatDoor

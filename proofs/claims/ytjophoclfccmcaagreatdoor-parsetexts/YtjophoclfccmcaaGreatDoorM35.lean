import Derived.Test.YtjophoclfccmcaaGreatDoorM34
import Derived.Deep.DeepCutAuto
set_option maxHeartbeats 2000000
set_option maxRecDepth 100000
namespace Go.Proofs.YtjophoclfccmcaaGreatDoor
open Go.RowKit Go.Lib
attribute [local go_sem ↓] Go.wp_at_zero Go.wp_at_succ
theorem LR (W:World) (s:ByteArray):Calls Tryz.prog 108 #[.string s] W (UE W s):=by
 have eC:=zE W.heap.size W
 by_cases h0:65536<s.size
 ·have Hr:=ab (sh h0)
  have e0:=Rp (a:=s.size) (k:=65536) (by omega)
  clear h0
  go_enter Tryz.func108,Tryz.ntmps108
  go_wp2
  go_ret2
  exact pR eC (aa Hr)
 ·have e0:=Rq (a:=s.size) (k:=65536) (by omega)
  have hs:s.size≤65536:=by omega
  have H0:=ab h0
  clear h0
  go_enter Tryz.func108,Tryz.ntmps108
  go_wp2_with fail
  refine (Ax W s (by omega)).mono ?_
  rintro e w1 ⟨rfl,he⟩
  obtain rfl:W=w1:=he.symm
  by_cases h1:0≤cG s 0
  ·have Hr:=ab (xT (aa H0) h1)
   obtain ⟨u,hu⟩:∃u,u=cG s 0:=⟨_,rfl⟩
   rw[←hu] at h1 ⊢
   have e1:decide (0≤u)=true:=by simp;omega
   clear hu h1
   go_wp2
   go_ret2
   exact pR eC (aa Hr)
  ·have H1:Hid (cG s 0<0):=by show _<_;omega
   obtain ⟨u,hu⟩:∃u,u=cG s 0:=⟨_,rfl⟩
   rw[←hu] at h1 ⊢
   have e1:decide (0≤u)=false:=by simp;omega
   clear hu h1
   by_cases hz:s.size=0
   ·have Hr:=ab (gP (aa H0) (Int.not_le.2 (aa H1)) (.inl (by unfold l9;rw[if_pos hz])))
    obtain rfl:=rh hz
    go_wp2
    go_ret2
    exact pR eC (aa Hr)
   ·have e2:=rj hz
    have s0:0<s.size:=by omega
    obtain ⟨q,hq,lF,gq⟩:=cS s 0 s0
    have P9:az s 0=q:=(eF s 0 s0).trans gq
    by_cases DZ:q=39∨q=34
    ·have hL:=si hz (by rw[P9];exact DZ)
     have HL:=ab hL
     have hf:((q:Int) != 34)=false∨(((q:Int) != 34)=true∧((q:Int) != 39)=false):=by
      rcases DZ with rfl|rfl
      ·exact .inr ⟨by decide,by decide⟩
      ·exact .inl (by decide)
     have yL:=nJ W s 0 s0 hs
     rw[Nat.zero_add,←hL] at yL
     have SL:=ab yL
     clear hq P9 DZ hL hz yL
     rcases hf with f1|⟨f1,f2⟩
     ·go_wp2_with fail
      refine (aa SL).mono ?_
      rintro e w2 ⟨bo,⟨ho,rfl⟩|⟨l,n,v,ho,rfl,hv⟩⟩
      ·have Hr:=ab (gP (aa H0) (Int.not_le.2 (aa H1)) (.inl ho))
       have iJ:=ab bo
       have e3:((0:Int) != (s.size:Int))=true:=by simp;omega
       clear ho bo
       go_wp2
       go_ret2
       exact pR (aa iJ) (aa Hr)
      ·obtain ⟨n1,n2,yR⟩:=Br ho
       have iJ:=ab bo
       obtain ⟨va,vn,vc,rfl⟩:=hv.shape
       by_cases h2:n=s.size
       ·have Hr:=ab (wY (aa H0) (Int.not_le.2 (aa H1)) (by rw[ho,h2]))
        have ZH:=ze hv.has yR
        have e3:((n:Int) != (s.size:Int))=false:=by simp;omega
        clear ho bo hv h2 yR
        go_wp2
        go_ret2
        exact pR (aa iJ) (aa Hr)
       ·have Hr:=ab (gP (aa H0) (Int.not_le.2 (aa H1)) (.inr ⟨l,n,ho,h2⟩))
        have e3:((n:Int) != (s.size:Int))=true:=by simp;omega
        clear ho bo hv h2 yR
        go_wp2
        go_ret2
        exact pR (aa iJ) (aa Hr)
     ·go_wp2_with fail
      refine (aa SL).mono ?_
      rintro e w2 ⟨bo,⟨ho,rfl⟩|⟨l,n,v,ho,rfl,hv⟩⟩
      ·have Hr:=ab (gP (aa H0) (Int.not_le.2 (aa H1)) (.inl ho))
       have iJ:=ab bo
       have e3:((0:Int) != (s.size:Int))=true:=by simp;omega
       clear ho bo
       go_wp2
       go_ret2
       exact pR (aa iJ) (aa Hr)
      ·obtain ⟨n1,n2,yR⟩:=Br ho
       have iJ:=ab bo
       obtain ⟨va,vn,vc,rfl⟩:=hv.shape
       by_cases h2:n=s.size
       ·have Hr:=ab (wY (aa H0) (Int.not_le.2 (aa H1)) (by rw[ho,h2]))
        have ZH:=ze hv.has yR
        have e3:((n:Int) != (s.size:Int))=false:=by simp;omega
        clear ho bo hv h2 yR
        go_wp2
        go_ret2
        exact pR (aa iJ) (aa Hr)
       ·have Hr:=ab (gP (aa H0) (Int.not_le.2 (aa H1)) (.inr ⟨l,n,ho,h2⟩))
        have e3:((n:Int) != (s.size:Int))=true:=by simp;omega
        clear ho bo hv h2 yR
        go_wp2
        go_ret2
        exact pR (aa iJ) (aa Hr)
    ·have Hr:=ab (gP (aa H0) (Int.not_le.2 (aa H1)) (.inl (AB hz (by rw[P9];exact DZ))))
     have f1:((q:Int) != 34)=true:=by simp;omega
     have f2:((q:Int) != 39)=true:=by simp;omega
     clear hq P9 DZ
     go_wp2
     go_ret2
     exact pR eC (aa Hr)
end Go.Proofs.YtjophoclfccmcaaGreatDoor
namespace Go.Proofs.YtjophoclfccmcaaGreatDoor
open Go.RowKit
attribute [local go_sem ↓] Go.wp_at_zero Go.wp_at_succ
theorem mU {P:Program}{fn:Func}{q p:Tmp}{ty:TypeId} (h:fn.results=#[.tmp q,.cell p ty]) (tmps:Array Value) (w:World) (g:Nat) (t:TypeId) (cs:Array Value) (fr:Nat×Nat) (d:TypeDesc)
  (hp:tmps.getD p undef=.pointer (some ⟨g,0,none⟩)) (hg:w.heap[g]?=some (.cells cs t fr))
  (hu:P.underlying ty=some d) (hd:(match d with|.struct _|.array _ _=>true|_=>false)=true) (hi:(P.info? ty).map (·.size)=some cs.size) :
  (results fn tmps).run P w=.ok (.tuple #[tmps.getD q undef,.agg cs]) w:=by
 have hp':tmps[p]?.getD undef=.pointer (some ⟨g,0,none⟩):=by simpa using hp
 simp[results,h,hp',asAddr,run_loadVar_row w g t ty cs fr d hg hu hd hi]
theorem FE {w:World}{g:Nat}{b0 b1 b2:Value}{t:TypeId} (h:w.heap[g]?=some (.cells #[b0,b1,b2] t (0,0))) (a0 a1 a2:Value):(((w.setCell ⟨g,0,none⟩ a0).setCell ⟨g,1,none⟩ a1).setCell ⟨g,2,none⟩ a2).heap[g]?=some (.cells #[a0,a1,a2] t (0,0))∧w.grownBy (((w.setCell ⟨g,0,none⟩ a0).setCell ⟨g,1,none⟩ a1).setCell ⟨g,2,none⟩ a2) (some g):=by
 obtain ⟨h0,g0⟩:=aC (j:=0) h a0
 obtain ⟨h1,g1⟩:=aC (j:=1) h0 a1
 obtain ⟨h2,g2⟩:=aC (j:=2) h1 a2
 exact ⟨h2,(g0.trans g1).trans g2⟩
theorem Zd.Ul {lo b:Nat}{W w:World}{X:ZX} (h:Zd lo W b X) (hb:Below lo W w):Zd lo w b X:=by
 obtain ⟨hl,hx⟩:=h
 refine ⟨⟨hl.1,Nat.le_trans hl.2 hb.size⟩,?_⟩
 match X,hx with
 |.ok s,⟨v,L,i,h1,h2,h3⟩=>exact ⟨v,L,i,(hb.block b hl.1).trans h1,h2.up hb,h3⟩
 |.error y,⟨a,n,c,i,en,ct,h1,h2⟩=>exact ⟨a,n,c,i,en,ct,(hb.block b hl.1).trans h1,h2⟩
theorem Zr.Ul {lo b:Nat}{W w:World}{R:PX} (h:Zr lo W b R) (hb:Below lo W w):Zr lo w b R:=⟨h.1.Ul hb,h.2⟩
theorem cy {W V w:World}{b g:Nat} (h:W.grownBy V (some b)) (k:V.grownBy w (some g)) (hg:W.heap.size≤g):W.grownBy w (some b):=⟨k.os.trans h.os,k.tape.trans h.tape,k.output.trans h.output,Nat.le_trans h.size k.size,fun q h1 h2=>(k.block q (Nat.lt_of_lt_of_le h1 h.size) (by simp;omega)).trans (h.block q h1 h2)⟩
theorem yZ {W w:World}{r:Option Nat} (h:W.grownBy w r):W.grownBy w.drew r:=⟨h.os,h.tape,h.output,h.size,h.block⟩
theorem Zr.gA {lo b g:Nat}{W w:World}{R:PX} (h:Zr lo W b R) (k:W.grownBy w (some g)) (hg:lo≤g):Zr lo w b R:=h.Ul ((zE lo W).grown k h.low.2 (fun q e=>by simp at e;omega))
theorem Zr.drew {lo b:Nat}{W:World}{R:PX} (h:Zr lo W b R):Zr lo W.drew b R:=h.Ul ⟨rfl,rfl,rfl,zD _,fun _ _=>rfl⟩
theorem Bu {W w:World}{lo b g:Nat}{R:PX}{b0 b1 b2:Value}{T:TypeId} (hg:W.grownBy w (some b)) (hz:Zr lo w b R) (hl:lo≤W.heap.size) (hW:W.heap.size≤g) (hr:w.heap[g]?=some (.cells #[b0,b1,b2] T (0,0))) (a0 a1 a2:Value) :
  (((w.setCell ⟨g,0,none⟩ a0).setCell ⟨g,1,none⟩ a1).setCell ⟨g,2,none⟩ a2).drew.heap[g]?=some (.cells #[a0,a1,a2] T (0,0))∧W.grownBy (((w.setCell ⟨g,0,none⟩ a0).setCell ⟨g,1,none⟩ a1).setCell ⟨g,2,none⟩ a2).drew (some b)∧Zr lo (((w.setCell ⟨g,0,none⟩ a0).setCell ⟨g,1,none⟩ a1).setCell ⟨g,2,none⟩ a2).drew b R:=by
 obtain ⟨h1,h2⟩:=FE hr a0 a1 a2
 exact ⟨h1,yZ (cy hg h2 hW),(hz.gA h2 (Nat.le_trans hl hW)).drew⟩
theorem eN {i:Int} (h:0≤i∧i≤16384):wrap64 (i+1)=i+1:=by
 obtain ⟨h1,h2⟩:=h
 unfold wrap64
 omega
def txV (p:ByteArray×Tk):Value:=.tuple #[.string p.1,p.2.val]
def abc (v:Value):Prop:=∃(x:ByteArray) (t:Tk),v=.tuple #[.string x,t.val]
def xt (k kd:Int) (R:PX):PX:=if kd=k then R else kN R
def lU (c sp:Int) (R:PX):PX:=if c=0 then R else mI c sp R
def H7 (kd sp:Int) (c:Int) (R:PX):PX:=lU c sp (xt 3 kd R)
theorem aa1 {R:PX}{kd sp c:Int}{tx x:ByteArray} (hp:EN R ⟨kd,sp,tx⟩) (hu:ft tx=(x,c)):(∀s,H7 kd sp c R=.ok s→0<s.ts.length∨s.en.kind≠5)∧kI (H7 kd sp c R)=aT (al R cH)∧∀a s,al R cH=.ok (a,s)→a=(x,⟨kd,sp,tx⟩):=by
 match R,hp with
 |.error y,hp =>
  have e:H7 kd sp c (.error y)=.error y:=by
   unfold H7 lU xt
   split<;>split<;>rfl
  rw[e]
  exact ⟨fun _ e=>(by cases e),rfl,fun _ _ e=>(by cases e)⟩
 |.ok s,hp =>
  obtain ⟨h1,h2,h3⟩:=hp
  by_cases hk:kd=3
  ·have ht:(⟨kd,sp,tx⟩:Tk)=s.here:=h3 (by rw[←h1];show kd≠5;omega)
   have E6:tx=s.here.text:=congrArg Tk.text ht
   have ht3:sp=s.here.spot:=congrArg Tk.spot ht
   have LC:s.here.kind=3:=by rw[←h1];exact hk
   by_cases hc:c=0
   ·have e:H7 kd sp c (.ok s)=.ok s:=by unfold H7 lU xt;rw[if_pos hc,if_pos hk]
    have e2:cH s=.ok ((x,s.here),s.nx):=by
     unfold cH
     rw[if_pos LC,←E6,hu,if_pos hc]
    rw[e,show al (.ok s) cH=cH s from rfl,e2]
    refine ⟨fun s' e=>?_,rfl,fun a s' e=>?_⟩
    ·cases e
     by_cases he:s.en.kind=5
     ·exact .inl (bP he (by rw[LC];decide))
     ·exact .inr he
    ·cases e
     rw[ht]
   ·have e:H7 kd sp c (.ok s)=.error (c,sp):=by unfold H7 lU xt;rw[if_neg hc,if_pos hk];rfl
    have e2:cH s=.error (c,sp):=by
     unfold cH
     rw[if_pos LC,←E6,hu,if_neg hc,←ht3]
    rw[e,show al (.ok s) cH=cH s from rfl,e2]
    exact ⟨fun _ e=>(by cases e),rfl,fun _ _ e=>(by cases e)⟩
  ·have e:H7 kd sp c (.ok s)=.error (bS s):=by
    unfold H7 lU xt
    rw[if_neg hk]
    split<;>rfl
   have e2:cH s=.error (bS s):=by
    unfold cH
    rw[if_neg (by rw[←h1];exact hk)]
   rw[e,show al (.ok s) cH=cH s from rfl,e2]
   exact ⟨fun _ e=>(by cases e),rfl,fun _ _ e=>(by cases e)⟩
theorem Bn {W:World}{lo b:Nat}{R:PX} (h:Zr lo W b R):Calls Tryz.prog 66 #[.pointer (some ⟨b,0,none⟩)] W (ZQ lo b W txV abc (al R cH)):=by
 have cC:=h.low
 have eC:=(zE W.heap.size W).alloc (zD _) (.cells #[.int .i64 0,.int .i64 0,.string ⟨#[]⟩] 38)
 have H0:=ab (h.up eC)
 have HB0:=ab eC
 clear h eC
 go_enter Tryz.func66,Tryz.ntmps66
 go_wp2_with fail
 refine (gm (aa H0)).mono ?_
 rintro e w1 ⟨⟨kd,sp,tx⟩,rfl,hb,hp⟩
 have HP:=ab hp
 have cl:W.heap.size<w1.heap.size:=by have:=hb.size;rw[zJ] at this;omega
 have bK:Below W.heap.size W w1:=(aa HB0).trans (hb.mono (by rw[zJ];omega))
 have HZ:=ab ((aa H0).up (hb.alloc hb.size (.cells #[.int .i64 kd,.int .i64 sp,.string tx] 38)))
 have hr:w1.heap[W.heap.size]?=some (.cells #[.int .i64 0,.int .i64 0,.string ⟨#[]⟩] 38 (0,0)):=(hb.block _ (by rw[zJ];omega)).trans (aF _ _)
 have HR:Hid ((w1.alloc (.cells #[.int .i64 kd,.int .i64 sp,.string tx] 38)).heap[W.heap.size]?=some (.cells #[.int .i64 0,.int .i64 0,.string ⟨#[]⟩] 38 (0,0))):=(Below.heap_alloc _ _ _ cl).trans hr
 have HQ:Hid ((w1.alloc (.cells #[.int .i64 kd,.int .i64 sp,.string tx] 38)).heap[w1.heap.size]?=some (.cells #[.int .i64 kd,.int .i64 sp,.string tx] 38 (0,0))):=aF _ _
 have iJ:Hid (Below W.heap.size W (w1.alloc (.cells #[.int .i64 kd,.int .i64 sp,.string tx] 38))):=bK.alloc bK.size _
 unfold Tk.val
 clear hp hb bK hr H0 HB0
 go_upto_if 11 with fail
 go_cut [] (fun wx=>Hid ((w1.alloc (.cells #[.int .i64 kd,.int .i64 sp,.string tx] 38)).grownBy wx (some b)∧Zr lo wx b (xt 3 kd R)))
 case first =>
  by_cases h1:kd=3
  ·obtain rfl:=h1
   go_wp2
   go_meet
   exact ⟨zI _ _,by unfold xt;rw[if_pos rfl];exact aa HZ⟩
  ·have e1:(kd != 3)=true:=by simpa using h1
   have H1:=ab h1
   clear h1
   go_wp2_with fail
   refine (kM (aa HZ)).mono ?_
   rintro e w3 ⟨rfl,hg,hz⟩
   have HH:Hid ((w1.alloc (.cells #[.int .i64 kd,.int .i64 sp,.string tx] 38)).grownBy w3 (some b)∧Zr lo w3 b (xt 3 kd R)):=⟨hg,by unfold xt;rw[if_neg (aa H1)];exact hz⟩
   clear hg hz
   go_wp2
   go_meet
   exact HH
 case rest =>
 obtain ⟨hg,hz⟩:=aa hcut
 have hq:=aw hg (aa HQ) (by omega)
 have hr:=aw hg (aa HR) (by omega)
 obtain ⟨⟨c0,c1,c2⟩,hf⟩:=dF hq
 have HQc:=ab hq
 have HRc:=ab hr
 have HGc:=ab hg
 have HZc:=ab hz
 clear hq hr hg hz hcut HZ HQ HR hf
 go_wp2_with fail
 refine (LR wc tx).mono ?_
 rintro e w4 ⟨fC,x,c,rfl,hu⟩
 have HU:=ab hu
 have TY:=ab ((aa HZc).up fC)
 have kZ:=b9 (V:=w4) fC (zI _ (some b))
 have XS:=ab (aw kZ (aa HQc) (by omega))
 have zT:=ab (aw kZ (aa HRc) (by omega))
 have rX:=ab ((aa HGc).trans kZ)
 clear fC hu kZ HQc HRc HGc HZc c0 c1 c2
 obtain ⟨⟨c0,c1,c2⟩,hf⟩:=dF (aa XS)
 clear hf
 go_upto_if 21 with fail
 go_cut [] (fun wx=>Hid (w4.grownBy wx (some b)∧Zr lo wx b (H7 kd sp c R)))
 case first =>
  by_cases h1:c=0
  ·obtain rfl:=h1
   go_wp2
   go_meet
   exact ⟨zI _ _,by unfold H7 lU;rw[if_pos rfl];exact aa TY⟩
  ·have e1:(c != 0)=true:=by simpa using h1
   have H1:=ab h1
   clear h1
   go_wp2_with fail
   refine (gX (aa TY) c sp (aa H1)).mono ?_
   rintro e w5 ⟨rfl,hg,hz⟩
   have HH:Hid (w4.grownBy w5 (some b)∧Zr lo w5 b (H7 kd sp c R)):=⟨hg,by unfold H7 lU;rw[if_neg (aa H1)];exact hz⟩
   clear hg hz
   go_wp2
   go_meet
   exact HH
 case rest =>
 obtain ⟨hg,hz⟩:=aa hcut
 obtain ⟨p1,p2,p3⟩:=aa1 (aa HP) (aa HU)
 have hq:=aw hg (aa XS) (by omega)
 have hr:=aw hg (aa zT) (by omega)
 have Jt:=ab ((aa rX).trans hg)
 obtain ⟨i,ci,fi,bF,hi⟩:=hz.next (fun s e=>(p1 s e).resolve_right (fun q=>q (by have:=hz.2;rw[e] at this;exact this.en)))
 obtain ⟨⟨d0,d1,d2⟩,hfq⟩:=dF hq
 obtain ⟨⟨r0,r1,r2⟩,du⟩:=dF hr
 have um:=du 0
 have uk:=du 1
 have uj:=du 2
 have Zm:w1.heap.size≠b:=by omega
 have RF:W.heap.size≠b:=by omega
 have F':W.heap.size≠w1.heap.size:=by omega
 have WK:=ab bF
 have HI:=ab hi
 have HRr:=ab hr
 have P2:=ab p2
 have P3:=ab p3
 clear bF hi hq hr hg hz hcut p1 p2 p3 XS zT rX TY c0 c1 c2 hfq du HP HU
 go_upto_region 8 with fail
 go_region
 go_wp2
 obtain ⟨g1,z1⟩:=aa WK (wrap64 (i+1)) (fun s e=>eN (aa HI s e))
 obtain ⟨t1,t2,t3⟩:=Bu (b9 (aa iJ) ((aa Jt).trans g1)) z1 cC.2 (zD _) (aw g1 (aa HRr) RF) (.int .i64 kd) (.int .i64 sp) (.string tx)
 refine bodyPost_ret (mU rfl _ _ W.heap.size 38 #[.int .i64 kd,.int .i64 sp,.string tx] (0,0) _ rfl t1 Tryz.underlying38 rfl lC) rfl ?_
 refine ⟨t2,by rw[←aa P2];exact t3,_,rfl,⟨x,⟨kd,sp,tx⟩,rfl⟩,fun a s e=>?_⟩
 rw[aa P3 a s e]
 rfl
theorem C5 (W:World) (s:ByteArray):Calls Tryz.prog 113 #[.string s] W (aax W s):=by
 have eC:=zE W.heap.size W
 by_cases h0:s.size≤65536
 ·have e0:=Rq (a:=s.size) (k:=65536) (by omega)
  go_enter Tryz.func113,Tryz.ntmps113
  go_wp2_with fail
  refine (nK W s h0).mono ?_
  rintro e w1 ⟨he,⟨u,rfl,hu⟩|⟨rfl,hu⟩⟩
  ·obtain rfl:W=w1:=he.symm
   have Hu:=ab hu
   clear hu
   go_wp2
   go_ret2
   exact ⟨eC,_,_,rfl,.inr ⟨h0,.inl ⟨u,aa Hu,rfl,rfl⟩⟩⟩
  ·obtain rfl:W=w1:=he.symm
   have Hu:=ab hu
   clear hu
   go_wp2
   go_ret2
   exact ⟨eC,_,_,rfl,.inr ⟨h0,.inr ⟨aa Hu,rfl,rfl⟩⟩⟩
 ·have e0:=Rp (a:=s.size) (k:=65536) (by omega)
  go_enter Tryz.func113,Tryz.ntmps113
  go_wp2
  go_ret2
  exact ⟨eC,_,_,rfl,.inl ⟨by omega,rfl,rfl⟩⟩
theorem bL {w:World}{k:Nat}{o:Obj} (h:w.heap[k]?=some o) (p:Obj):(w.alloc p).heap[k]?=some o:=(Below.heap_alloc _ _ _ (zA h).1).trans h
theorem JD (W:World) (x:ByteArray):Calls Tryz.prog 113 #[.string x] W fun e w=>e=.returned (.tuple #[.int .i64 (c8 x).1,.int .i64 (c8 x).2])∧Below W.heap.size W w:=by
 refine (C5 W x).mono ?_
 rintro e w ⟨hb,n,c,rfl,hu⟩
 refine ⟨?_,hb⟩
 unfold c8
 rcases hu with ⟨h1,rfl,rfl⟩|⟨h1,⟨u,h2,rfl,rfl⟩|⟨h2,rfl,rfl⟩⟩
 ·rw[if_pos h1]
 ·rw[if_neg (by omega),h2]
 ·rw[if_neg (by omega),h2]
def Yu (p:Int×Tk):Value:=.tuple #[.int .i64 p.1,p.2.val]
def YG (v:Value):Prop:=∃(n:Int) (t:Tk),v=.tuple #[.int .i64 n,t.val]
def Kj (ls:Bool) (R:PX):PX:=if ls=true then kI R else R
def Ta (n sp:Int) (ls:Bool) (R:PX):PX:=if 2147483648<n∨(2147483647<n∧ls=false) then mI 55 sp R else R
def Kc (ls:Bool) (kd sp n c:Int) (R:PX):PX:=Ta n sp ls (lU c sp (xt 2 kd R))
theorem QX (ls:Bool) (kd sp n c:Int) (y:Int×Int):Kc ls kd sp n c (.error y)=.error y:=by
 unfold Kc Ta lU xt
 split<;>split<;>split<;>rfl
theorem Ys {R:PX}{mi:Bool}{kd sp:Int}{tx:ByteArray} (hg:lp R) (hp:EN (Kj (mi&&gd R 4 ⟨#[45]⟩) R) ⟨kd,sp,tx⟩):(∀s,Kc (mi&&gd R 4 ⟨#[45]⟩) kd sp (c8 tx).1 (c8 tx).2 (Kj (mi&&gd R 4 ⟨#[45]⟩) R)=.ok s→0<s.ts.length)∧kI (Kc (mi&&gd R 4 ⟨#[45]⟩) kd sp (c8 tx).1 (c8 tx).2 (Kj (mi&&gd R 4 ⟨#[45]⟩) R))=aT (al R (jb mi))∧∀a s,al R (jb mi)=.ok (a,s)→a=(if (mi&&gd R 4 ⟨#[45]⟩)=true then -(c8 tx).1 else (c8 tx).1,⟨kd,sp,tx⟩):=by
 match R,hg,hp with
 |.error y,_,hp =>
  have e0:(mi&&gd (.error y) 4 ⟨#[45]⟩)=false:=by show (mi&&false)=false;rw[Bool.and_false]
  rw[e0,show Kj false (.error y)=.error y from rfl,QX]
  exact ⟨fun _ e=>(by cases e),rfl,fun _ _ e=>(by cases e)⟩
 |.ok s,hg,hp =>
  have key:∀(ls:Bool) (u:ax),u.en.kind=5→EN (.ok u) ⟨kd,sp,tx⟩→(∀s',Kc ls kd sp (c8 tx).1 (c8 tx).2 (.ok u)=.ok s'→0<s'.ts.length)∧kI (Kc ls kd sp (c8 tx).1 (c8 tx).2 (.ok u))=aT (nW ls u)∧∀a s',nW ls u=.ok (a,s')→a=(if ls=true then -(c8 tx).1 else (c8 tx).1,⟨kd,sp,tx⟩):=by
   intro ls u hu hp
   obtain ⟨h1,h2,h3⟩:=hp
   by_cases hk:kd=2
   ·have ht:(⟨kd,sp,tx⟩:Tk)=u.here:=h3 (by rw[←h1];show kd≠5;omega)
    have E6:tx=u.here.text:=congrArg Tk.text ht
    have ht3:sp=u.here.spot:=congrArg Tk.spot ht
    have LC:u.here.kind=2:=by rw[←h1];exact hk
    have dN:0<u.ts.length:=bP hu (by rw[LC];decide)
    unfold Kc nW
    rw[if_pos LC,←E6]
    by_cases hc:(c8 tx).2=0
    ·rw[if_pos hc,show lU (c8 tx).2 sp (xt 2 kd (.ok u))=.ok u by unfold lU xt;rw[if_pos hc,if_pos hk]]
     unfold Ta
     by_cases hr:2147483648<(c8 tx).1∨(2147483647<(c8 tx).1∧ls=false)
     ·rw[if_pos hr,if_pos hr]
      exact ⟨fun _ e=>(by cases e),by rw[ht3];rfl,fun _ _ e=>(by cases e)⟩
     ·rw[if_neg hr,if_neg hr]
      refine ⟨fun s' e=>(by cases e;exact dN),rfl,fun a s' e=>?_⟩
      cases e
      rw[ht]
    ·rw[if_neg hc,show lU (c8 tx).2 sp (xt 2 kd (.ok u))=.error ((c8 tx).2,sp) by unfold lU xt;rw[if_neg hc,if_pos hk];rfl]
     have e1:Ta (c8 tx).1 sp ls (.error ((c8 tx).2,sp))=.error ((c8 tx).2,sp):=by unfold Ta;split<;>rfl
     rw[e1]
     exact ⟨fun _ e=>(by cases e),by rw[ht3];rfl,fun _ _ e=>(by cases e)⟩
   ·have e1:Kc ls kd sp (c8 tx).1 (c8 tx).2 (.ok u)=.error (bS u):=by
     unfold Kc lU xt Ta
     rw[if_neg hk]
     split<;>split<;>rfl
    have e2:nW ls u=.error (bS u):=by unfold nW;rw[if_neg (by rw[←h1];exact hk)]
    rw[e1,e2]
    exact ⟨fun _ e=>(by cases e),rfl,fun _ _ e=>(by cases e)⟩
  show _∧_=aT (jb mi s)∧∀a s',jb mi s=.ok (a,s')→_
  unfold jb
  rw[show gd (.ok s) 4 ⟨#[45]⟩=aH s.here 4 ⟨#[45]⟩ from rfl] at hp ⊢
  obtain ⟨q,hq⟩:∃q,(mi&&aH s.here 4 ⟨#[45]⟩)=q:=⟨_,rfl⟩
  rw[hq] at hp ⊢
  cases q with
  |true=>exact key true s.nx hg.en hp
  |false=>exact key false s hg.en hp
theorem r' {W:World}{lo b:Nat}{R:PX} (h:Zr lo W b R) (mi:Bool):Calls Tryz.prog 74 #[.pointer (some ⟨b,0,none⟩),.bool mi] W (ZQ lo b W Yu YG (al R (jb mi))):=by
 have cC:=h.low
 have lZ:Hid (lp R):=h.2
 have HZ:=ab h
 have HG:Hid (W.grownBy W (some b)):=zI _ _
 clear h
 have Va:b<W.heap.size:=by have:=(aa HG).size;omega
 have aW:=ab (aF (W) (.cells #[.int .i64 0,.int .i64 0,.string ⟨#[]⟩] 38))
 replace HZ:=ab ((aa HZ).up ((zE _ _).alloc (zD _) (.cells #[.int .i64 0,.int .i64 0,.string ⟨#[]⟩] 38)))
 replace HG:=ab ((aa HG).trans (aM ((zE _ _).alloc (zD _) (.cells #[.int .i64 0,.int .i64 0,.string ⟨#[]⟩] 38)) (some b)))
 go_enter Tryz.func74,Tryz.ntmps74
 go_upto_region 1 with fail
 go_cut [6] (fun v6 wx=>v6=.bool (mi&&gd R 4 ⟨#[45]⟩)∧Hid (Below (W.alloc (.cells #[.int .i64 0,.int .i64 0,.string ⟨#[]⟩] 38)).heap.size (W.alloc (.cells #[.int .i64 0,.int .i64 0,.string ⟨#[]⟩] 38)) wx))
 case first =>
  cases mi with
  |false =>
   go_wp2
   go_meet
   exact ⟨rfl,zE _ _⟩
  |true =>
   go_wp2_with fail
   refine (iw (aa HZ) 4 (by decide) ⟨#[45]⟩).mono ?_
   rintro e w0 ⟨rfl,hb⟩
   have HB:=ab hb
   clear hb
   go_wp2
   go_meet
   exact ⟨rfl,HB⟩
 case rest =>
 obtain ⟨w1,fV⟩:∃x,x=wc:=⟨_,rfl⟩
 subst fV
 obtain ⟨rfl,hb⟩:=hcut
 replace HZ:=ab ((aa HZ).up (aa hb))
 have hg:=aM (aa hb) (some b)
 replace aW:=ab (aw hg (aa aW) (by omega))
 replace HG:=ab ((aa HG).trans hg)
 clear hg hb
 obtain ⟨ls,Vn⟩:∃q,(mi&&gd R 4 ⟨#[45]⟩)=q:=⟨_,rfl⟩
 rw[Vn]
 have wU:=ab Vn
 clear Vn
 obtain ⟨⟨xE,xD,xC⟩,du⟩:=dF (aa aW)
 have um:=du 0
 have uk:=du 1
 have uj:=du 2
 clear du
 go_upto_if 15 with fail
 go_cut [] (fun wx=>Hid (World.grownBy (w1) wx (some b)∧Zr lo wx b (Kj ls R)))
 case first =>
  cases ls with
  |false =>
   go_wp2
   go_meet
   exact ⟨zI _ _,aa HZ⟩
  |true =>
   have Vn:=aa wU
   rw[Bool.and_eq_true] at Vn
   obtain ⟨s,rfl,hq⟩:=fE Vn.2
   obtain ⟨i,ci,fi,bF,hi⟩:=(aa HZ).next (fun s' e=>by cases e;exact eT (aa lZ).en hq (by decide))
   have WK:=ab (bF (wrap64 (i+1)) (fun s e=>eN (hi s e)))
   clear bF hi Vn hq
   go_wp2
   go_meet
   exact aa WK
 case rest =>
 obtain ⟨w2,fV⟩:∃x,x=wc:=⟨_,rfl⟩
 subst fV
 clear xE xD xC um uk uj
 obtain ⟨hg,hz⟩:=aa hcut
 replace HZ:=ab hz
 replace aW:=ab (aw hg (aa aW) (by omega))
 replace HG:=ab ((aa HG).trans hg)
 clear hg hz hcut
 obtain ⟨⟨xE,xD,xC⟩,du⟩:=dF (aa aW)
 have um:=du 0
 have uk:=du 1
 have uj:=du 2
 clear du
 go_wp2_with fail
 refine (gm (aa HZ)).mono ?_
 rintro e w3 ⟨⟨kt,pt,tt⟩,rfl,hb,hp⟩
 clear xE xD xC um uk uj
 have po:=ab hp
 replace HZ:=ab ((aa HZ).up hb)
 have hg:=aM hb (some b)
 replace aW:=ab (aw hg (aa aW) (by omega))
 replace HG:=ab ((aa HG).trans hg)
 clear hb hp hg
 unfold Tk.val
 have NN:b<w3.heap.size:=by have:=(aa HG).size;omega
 have D4:W.heap.size<w3.heap.size:=by have h:=(zA (aa aW)).1;exact h
 replace aW:=ab (bL (aa aW) (.cells #[.int .i64 kt,.int .i64 pt,.string tt] 38))
 have aZ:=ab (aF (w3) (.cells #[.int .i64 kt,.int .i64 pt,.string tt] 38))
 replace HZ:=ab ((aa HZ).up ((zE _ _).alloc (zD _) (.cells #[.int .i64 kt,.int .i64 pt,.string tt] 38)))
 replace HG:=ab ((aa HG).trans (aM ((zE _ _).alloc (zD _) (.cells #[.int .i64 kt,.int .i64 pt,.string tt] 38)) (some b)))
 obtain ⟨⟨xE,xD,xC⟩,du⟩:=dF (aa aW)
 have um:=du 0
 have uk:=du 1
 have uj:=du 2
 clear du
 obtain ⟨⟨Fb,Fa,E'⟩,mD⟩:=dF (aa aZ)
 have KR:=mD 0
 have KQ:=mD 1
 have KP:=mD 2
 clear mD
 go_upto_if 27 with fail
 go_cut [] (fun wx=>Hid (World.grownBy (w3.alloc (.cells #[.int .i64 kt,.int .i64 pt,.string tt] 38)) wx (some b)∧Zr lo wx b (xt 2 kt (Kj ls R))))
 case first =>
  by_cases h1:(kt≠2)
  ·have e1:(kt != 2)=true:=by simpa using h1
   have H1:=ab h1
   clear h1
   go_wp2_with fail
   refine (kM (aa HZ)).mono ?_
   rintro e w0 ⟨rfl,hg,hz⟩
   have HH:Hid (World.grownBy (w3.alloc (.cells #[.int .i64 kt,.int .i64 pt,.string tt] 38)) w0 (some b)∧Zr lo w0 b (xt 2 kt (Kj ls R))):=⟨hg,by unfold xt;rw[if_neg (aa H1)];exact hz⟩
   clear hg hz
   go_wp2
   go_meet
   exact HH
  ·have e1:(kt != 2)=false:=by simpa using h1
   have HH:Hid (World.grownBy (w3.alloc (.cells #[.int .i64 kt,.int .i64 pt,.string tt] 38)) (w3.alloc (.cells #[.int .i64 kt,.int .i64 pt,.string tt] 38)) (some b)∧Zr lo (w3.alloc (.cells #[.int .i64 kt,.int .i64 pt,.string tt] 38)) b (xt 2 kt (Kj ls R))):=⟨zI _ _,by unfold xt;rw[if_pos (Decidable.not_not.1 h1)];exact aa HZ⟩
   clear h1
   go_wp2
   go_meet
   exact HH
 case rest =>
 obtain ⟨w4,fV⟩:∃x,x=wc:=⟨_,rfl⟩
 subst fV
 clear xE xD xC um uk uj Fb Fa E' KR KQ KP
 obtain ⟨hg,hz⟩:=aa hcut
 replace HZ:=ab hz
 replace aW:=ab (aw hg (aa aW) (by omega))
 replace aZ:=ab (aw hg (aa aZ) (by omega))
 replace HG:=ab ((aa HG).trans hg)
 clear hg hz hcut
 obtain ⟨⟨xE,xD,xC⟩,du⟩:=dF (aa aW)
 have um:=du 0
 have uk:=du 1
 have uj:=du 2
 clear du
 obtain ⟨⟨Fb,Fa,E'⟩,mD⟩:=dF (aa aZ)
 have KR:=mD 0
 have KQ:=mD 1
 have KP:=mD 2
 clear mD
 go_wp2_with fail
 refine (JD w4 tt).mono ?_
 rintro e w5 ⟨rfl,hb⟩
 clear xE xD xC um uk uj Fb Fa E' KR KQ KP
 replace HZ:=ab ((aa HZ).up hb)
 have hg:=aM hb (some b)
 replace aW:=ab (aw hg (aa aW) (by omega))
 replace aZ:=ab (aw hg (aa aZ) (by omega))
 replace HG:=ab ((aa HG).trans hg)
 clear hb hg
 have HN:=ab (Ys (mi:=mi) (kd:=kt) (sp:=pt) (tx:=tt) (aa lZ) (by rw[aa wU];exact aa po))
 have eO:=nX tt
 obtain ⟨n,hn⟩:∃n,(c8 tt).1=n:=⟨_,rfl⟩
 obtain ⟨c,hc⟩:∃n,(c8 tt).2=n:=⟨_,rfl⟩
 rw[hn,hc,aa wU] at HN
 rw[hn] at eO
 rw[hn,hc]
 have acs:=ab eO
 clear hn hc eO
 obtain ⟨⟨xE,xD,xC⟩,du⟩:=dF (aa aW)
 have um:=du 0
 have uk:=du 1
 have uj:=du 2
 clear du
 obtain ⟨⟨Fb,Fa,E'⟩,mD⟩:=dF (aa aZ)
 have KR:=mD 0
 have KQ:=mD 1
 have KP:=mD 2
 clear mD
 go_upto_if 37 with fail
 go_cut [] (fun wx=>Hid (World.grownBy (w5) wx (some b)∧Zr lo wx b (lU c pt (xt 2 kt (Kj ls R)))))
 case first =>
  by_cases h1:(c≠0)
  ·have e1:(c != 0)=true:=by simpa using h1
   have H1:=ab h1
   clear h1
   go_wp2_with fail
   refine (gX (aa HZ) c pt (aa H1)).mono ?_
   rintro e w0 ⟨rfl,hg,hz⟩
   have HH:Hid (World.grownBy (w5) w0 (some b)∧Zr lo w0 b (lU c pt (xt 2 kt (Kj ls R)))):=⟨hg,by unfold lU;rw[if_neg (aa H1)];exact hz⟩
   clear hg hz
   go_wp2
   go_meet
   exact HH
  ·have e1:(c != 0)=false:=by simpa using h1
   have HH:Hid (World.grownBy (w5) (w5) (some b)∧Zr lo (w5) b (lU c pt (xt 2 kt (Kj ls R)))):=⟨zI _ _,by unfold lU;rw[if_pos (Decidable.not_not.1 h1)];exact aa HZ⟩
   clear h1
   go_wp2
   go_meet
   exact HH
 case rest =>
 obtain ⟨w6,fV⟩:∃x,x=wc:=⟨_,rfl⟩
 subst fV
 clear xE xD xC um uk uj Fb Fa E' KR KQ KP
 obtain ⟨hg,hz⟩:=aa hcut
 replace HZ:=ab hz
 replace aW:=ab (aw hg (aa aW) (by omega))
 replace aZ:=ab (aw hg (aa aZ) (by omega))
 replace HG:=ab ((aa HG).trans hg)
 clear hg hz hcut
 obtain ⟨⟨xE,xD,xC⟩,du⟩:=dF (aa aW)
 have um:=du 0
 have uk:=du 1
 have uj:=du 2
 clear du
 obtain ⟨⟨Fb,Fa,E'⟩,mD⟩:=dF (aa aZ)
 have KR:=mD 0
 have KQ:=mD 1
 have KP:=mD 2
 clear mD
 go_upto_region 10 with fail
 go_cut [52] (fun v52 wx=>v52=.bool (decide (2147483648<n∨(2147483647<n∧ls=false)))∧wx=w6)
 case first =>
  by_cases g1:2147483648<n
  ·have e1:decide (2147483648<n)=true:=by simpa using g1
   have e2:decide (2147483648<n∨(2147483647<n∧ls=false))=true:=decide_eq_true (Or.inl g1)
   clear g1
   go_wp2
   go_meet
   exact ⟨congrArg Value.bool e2.symm,rfl⟩
  ·have e1:decide (2147483648<n)=false:=by simpa using g1
   by_cases g2:2147483647<n
   ·have e2:decide (2147483647<n)=true:=by simpa using g2
    cases ls with
    |true =>
     have e3:decide (2147483648<n∨(2147483647<n∧true=false))=false:=decide_eq_false (fun q=>q.elim g1 (fun q=>by cases q.2))
     clear g1 g2
     go_wp2
     go_meet
     exact ⟨congrArg Value.bool e3.symm,rfl⟩
    |false =>
     have e3:decide (2147483648<n∨(2147483647<n∧false=false))=true:=decide_eq_true (Or.inr ⟨g2,rfl⟩)
     clear g1 g2
     go_wp2
     go_meet
     exact ⟨congrArg Value.bool e3.symm,rfl⟩
   ·have e2:decide (2147483647<n)=false:=by simpa using g2
    have e3:decide (2147483648<n∨(2147483647<n∧ls=false))=false:=decide_eq_false (fun q=>q.elim g1 (fun q=>g2 q.1))
    clear g1 g2
    go_wp2
    go_meet
    exact ⟨congrArg Value.bool e3.symm,rfl⟩
 case rest =>
 obtain ⟨rfl,fV⟩:=hcut
 have hwd:=fV.symm
 subst hwd
 obtain ⟨pb,Ky⟩:∃q,decide (2147483648<n∨(2147483647<n∧ls=false))=q:=⟨_,rfl⟩
 rw[Ky]
 have Ww:=ab Ky
 clear Ky
 go_upto_if 52 with fail
 go_cut [] (fun wx=>Hid (World.grownBy (w6) wx (some b)∧Zr lo wx b (Kc ls kt pt n c (Kj ls R))))
 case first =>
  cases pb with
  |true =>
   go_wp2_with fail
   refine (gX (aa HZ) 55 pt (by decide)).mono ?_
   rintro e w0 ⟨rfl,hg,hz⟩
   have HH:Hid (World.grownBy (w6) w0 (some b)∧Zr lo w0 b (Kc ls kt pt n c (Kj ls R))):=⟨hg,by unfold Kc Ta;rw[if_pos (of_decide_eq_true (aa Ww))];exact hz⟩
   clear hg hz
   go_wp2
   go_meet
   exact HH
  |false =>
   go_wp2
   go_meet
   exact ⟨zI _ _,by unfold Kc Ta;rw[if_neg (of_decide_eq_false (aa Ww))];exact aa HZ⟩
 case rest =>
 obtain ⟨w7,fV⟩:∃x,x=wc:=⟨_,rfl⟩
 subst fV
 clear xE xD xC um uk uj Fb Fa E' KR KQ KP
 obtain ⟨hg,hz⟩:=aa hcut
 replace HZ:=ab hz
 replace aW:=ab (aw hg (aa aW) (by omega))
 replace aZ:=ab (aw hg (aa aZ) (by omega))
 replace HG:=ab ((aa HG).trans hg)
 clear hg hz hcut
 obtain ⟨p1,p2,p3⟩:=aa HN
 have P2:=ab p2
 have P3:=ab p3
 obtain ⟨i7,ci,fi,bF,hi⟩:=(aa HZ).next (p1)
 obtain ⟨g1,z1⟩:=bF (wrap64 (i7+1)) (fun s e=>eN (hi s e))
 obtain ⟨⟨xE,xD,xC⟩,du⟩:=dF (aa aW)
 have um:=du 0
 have uk:=du 1
 have uj:=du 2
 clear du
 obtain ⟨⟨Fb,Fa,E'⟩,mD⟩:=dF (aa aZ)
 have KR:=mD 0
 have KQ:=mD 1
 have KP:=mD 2
 clear mD
 replace aW:=ab (aw g1 (aa aW) (by omega))
 replace aZ:=ab (aw g1 (aa aZ) (by omega))
 replace HG:=ab ((aa HG).trans g1)
 replace HZ:=ab z1
 clear g1 z1 bF hi
 clear p1 p2 p3 HN Ww po wU lZ
 have Zm:w3.heap.size≠b:=by omega
 have RF:W.heap.size≠b:=by omega
 have F':W.heap.size≠w3.heap.size:=by omega
 obtain ⟨t1,t2,t3⟩:=Bu (aa HG) (aa HZ) cC.2 (zD _) (aa aW) (.int .i64 kt) (.int .i64 pt) (.string tt)
 have T1:=ab t1
 have T2:=ab t2
 have T3:=ab t3
 clear t1 t2 t3
 cases ls with
 |false =>
  go_upto_region 15 with fail
  go_region
  go_wp2
  refine bodyPost_ret (mU rfl _ _ W.heap.size 38 #[.int .i64 kt,.int .i64 pt,.string tt] (0,0) _ rfl (aa T1) Tryz.underlying38 rfl lC) rfl ?_
  refine ⟨aa T2,by rw[←aa P2];exact aa T3,_,rfl,⟨n,⟨kt,pt,tt⟩,rfl⟩,fun a s e=>?_⟩
  rw[aa P3 a s e]
  rfl
 |true =>
  have hf:=aa acs
  go_upto_region 14 with fail
  go_region
  go_wp2
  refine bodyPost_ret (mU rfl _ _ W.heap.size 38 #[.int .i64 kt,.int .i64 pt,.string tt] (0,0) _ rfl (aa T1) Tryz.underlying38 rfl lC) rfl ?_
  refine ⟨aa T2,by rw[←aa P2];exact aa T3,_,rfl,⟨-n,⟨kt,pt,tt⟩,rfl⟩,fun a s e=>?_⟩
  rw[aa P3 a s e]
  rfl
end Go.Proofs.YtjophoclfccmcaaGreatDoor

import Derived.Test.YtjophoclfccmcaaGreatDoorM34
import Derived.Deep.DeepCutAuto
set_option maxHeartbeats 2000000
set_option maxRecDepth 100000
namespace Go.Proofs.YtjophoclfccmcaaGreatDoor
open Go.RowKit Go.Lib
attribute [local go_sem ↓] Go.wp_at_zero Go.wp_at_succ
theorem LV (W:World) (s:ByteArray):Calls Tryz.prog 108 #[.string s] W (UE W s):=by
 have eK:=zE W.heap.size W
 by_cases h0:65536<s.size
 ·have Hr:=ab (sr h0)
  have e0:=Tl (a:=s.size) (k:=65536) (by omega)
  clear h0
  go_enter Tryz.func108,Tryz.ntmps108
  go_wp2
  go_ret2
  exact pX eK (aa Hr)
 ·have e0:=Tm (a:=s.size) (k:=65536) (by omega)
  have hs:s.size≤65536:=by omega
  have H0:=ab h0
  clear h0
  go_enter Tryz.func108,Tryz.ntmps108
  go_wp2_with fail
  refine (Jz W s (by omega)).mono ?_
  rintro e w1 ⟨rfl,he⟩
  obtain rfl:W=w1:=he.symm
  by_cases h1:0≤cQ s 0
  ·have Hr:=ab (xQ (aa H0) h1)
   obtain ⟨u,hu⟩:∃u,u=cQ s 0:=⟨_,rfl⟩
   rw[←hu] at h1 ⊢
   have e1:decide (0≤u)=true:=by simp;omega
   clear hu h1
   go_wp2
   go_ret2
   exact pX eK (aa Hr)
  ·have H1:Hid (cQ s 0<0):=by show _<_;omega
   obtain ⟨u,hu⟩:∃u,u=cQ s 0:=⟨_,rfl⟩
   rw[←hu] at h1 ⊢
   have e1:decide (0≤u)=false:=by simp;omega
   clear hu h1
   by_cases hz:s.size=0
   ·have Hr:=ab (gM (aa H0) (Int.not_le.2 (aa H1)) (.inl (by unfold mh;rw[if_pos hz])))
    obtain rfl:=rp hz
    go_wp2
    go_ret2
    exact pX eK (aa Hr)
   ·have e2:=rq hz
    have s0:0<s.size:=by omega
    obtain ⟨q,hq,lG,gq⟩:=cS s 0 s0
    have Qs:aE s 0=q:=(fb s 0 s0).trans gq
    by_cases DT:q=39∨q=34
    ·have hL:=su hz (by rw[Qs];exact DT)
     have HL:=ab hL
     have hf:((q:Int) != 34)=false∨(((q:Int) != 34)=true∧((q:Int) != 39)=false):=by
      rcases DT with rfl|rfl
      ·exact .inr ⟨by decide,by decide⟩
      ·exact .inl (by decide)
     have FZ:=CW W s 0 s0 hs
     rw[Nat.zero_add,←hL] at FZ
     have Hxq:=ab FZ
     clear hq Qs DT hL hz FZ
     rcases hf with f1|⟨f1,f2⟩
     ·go_wp2_with fail
      refine (aa Hxq).mono ?_
      rintro e w2 ⟨br,⟨ho,rfl⟩|⟨l,n,v,ho,rfl,hv⟩⟩
      ·have Hr:=ab (gM (aa H0) (Int.not_le.2 (aa H1)) (.inl ho))
       have jm:=ab br
       have e3:((0:Int) != (s.size:Int))=true:=by simp;omega
       clear ho br
       go_wp2
       go_ret2
       exact pX (aa jm) (aa Hr)
      ·obtain ⟨n1,n2,yN⟩:=Bh ho
       have jm:=ab br
       obtain ⟨va,vn,vc,rfl⟩:=hv.shape
       by_cases h2:n=s.size
       ·have Hr:=ab (xb (aa H0) (Int.not_le.2 (aa H1)) (by rw[ho,h2]))
        have Z0:=zb hv.has yN
        have e3:((n:Int) != (s.size:Int))=false:=by simp;omega
        clear ho br hv h2 yN
        go_wp2
        go_ret2
        exact pX (aa jm) (aa Hr)
       ·have Hr:=ab (gM (aa H0) (Int.not_le.2 (aa H1)) (.inr ⟨l,n,ho,h2⟩))
        have e3:((n:Int) != (s.size:Int))=true:=by simp;omega
        clear ho br hv h2 yN
        go_wp2
        go_ret2
        exact pX (aa jm) (aa Hr)
     ·go_wp2_with fail
      refine (aa Hxq).mono ?_
      rintro e w2 ⟨br,⟨ho,rfl⟩|⟨l,n,v,ho,rfl,hv⟩⟩
      ·have Hr:=ab (gM (aa H0) (Int.not_le.2 (aa H1)) (.inl ho))
       have jm:=ab br
       have e3:((0:Int) != (s.size:Int))=true:=by simp;omega
       clear ho br
       go_wp2
       go_ret2
       exact pX (aa jm) (aa Hr)
      ·obtain ⟨n1,n2,yN⟩:=Bh ho
       have jm:=ab br
       obtain ⟨va,vn,vc,rfl⟩:=hv.shape
       by_cases h2:n=s.size
       ·have Hr:=ab (xb (aa H0) (Int.not_le.2 (aa H1)) (by rw[ho,h2]))
        have Z0:=zb hv.has yN
        have e3:((n:Int) != (s.size:Int))=false:=by simp;omega
        clear ho br hv h2 yN
        go_wp2
        go_ret2
        exact pX (aa jm) (aa Hr)
       ·have Hr:=ab (gM (aa H0) (Int.not_le.2 (aa H1)) (.inr ⟨l,n,ho,h2⟩))
        have e3:((n:Int) != (s.size:Int))=true:=by simp;omega
        clear ho br hv h2 yN
        go_wp2
        go_ret2
        exact pX (aa jm) (aa Hr)
    ·have Hr:=ab (gM (aa H0) (Int.not_le.2 (aa H1)) (.inl (Ax hz (by rw[Qs];exact DT))))
     have f1:((q:Int) != 34)=true:=by simp;omega
     have f2:((q:Int) != 39)=true:=by simp;omega
     clear hq Qs DT
     go_wp2
     go_ret2
     exact pX eK (aa Hr)
end Go.Proofs.YtjophoclfccmcaaGreatDoor
namespace Go.Proofs.YtjophoclfccmcaaGreatDoor
open Go.RowKit
attribute [local go_sem ↓] Go.wp_at_zero Go.wp_at_succ
theorem mX {P:Program}{fn:Func}{q p:Tmp}{ty:TypeId} (h:fn.results=#[.tmp q,.cell p ty]) (tmps:Array Value) (w:World) (g:Nat) (t:TypeId) (cs:Array Value) (fr:Nat×Nat) (d:TypeDesc)
  (hp:tmps.getD p undef=.pointer (some ⟨g,0,none⟩)) (hg:w.heap[g]?=some (.cells cs t fr))
  (hu:P.underlying ty=some d) (hd:(match d with|.struct _|.array _ _=>true|_=>false)=true) (hi:(P.info? ty).map (·.size)=some cs.size) :
  (results fn tmps).run P w=.ok (.tuple #[tmps.getD q undef,.agg cs]) w:=by
 have hp':tmps[p]?.getD undef=.pointer (some ⟨g,0,none⟩):=by simpa using hp
 simp[results,h,hp',asAddr,run_loadVar_row w g t ty cs fr d hg hu hd hi]
theorem Fv {w:World}{g:Nat}{b0 b1 b2:Value}{t:TypeId} (h:w.heap[g]?=some (.cells #[b0,b1,b2] t (0,0))) (a0 a1 a2:Value):(((w.setCell ⟨g,0,none⟩ a0).setCell ⟨g,1,none⟩ a1).setCell ⟨g,2,none⟩ a2).heap[g]?=some (.cells #[a0,a1,a2] t (0,0))∧w.grownBy (((w.setCell ⟨g,0,none⟩ a0).setCell ⟨g,1,none⟩ a1).setCell ⟨g,2,none⟩ a2) (some g):=by
 obtain ⟨h0,g0⟩:=aC (j:=0) h a0
 obtain ⟨h1,g1⟩:=aC (j:=1) h0 a1
 obtain ⟨h2,g2⟩:=aC (j:=2) h1 a2
 exact ⟨h2,(g0.trans g1).trans g2⟩
theorem Zd.Uv {lo b:Nat}{W w:World}{X:ZX} (h:Zd lo W b X) (hb:Below lo W w):Zd lo w b X:=by
 obtain ⟨hl,hx⟩:=h
 refine ⟨⟨hl.1,Nat.le_trans hl.2 hb.size⟩,?_⟩
 match X,hx with
 |.ok s,⟨v,L,i,h1,h2,h3⟩=>exact ⟨v,L,i,(hb.block b hl.1).trans h1,h2.up hb,h3⟩
 |.error y,⟨a,n,c,i,en,ct,h1,h2⟩=>exact ⟨a,n,c,i,en,ct,(hb.block b hl.1).trans h1,h2⟩
theorem Zr.Uv {lo b:Nat}{W w:World}{R:PX} (h:Zr lo W b R) (hb:Below lo W w):Zr lo w b R:=⟨h.1.Uv hb,h.2⟩
theorem cx {W V w:World}{b g:Nat} (h:W.grownBy V (some b)) (k:V.grownBy w (some g)) (hg:W.heap.size≤g):W.grownBy w (some b):=⟨k.os.trans h.os,k.tape.trans h.tape,k.output.trans h.output,Nat.le_trans h.size k.size,fun q h1 h2=>(k.block q (Nat.lt_of_lt_of_le h1 h.size) (by simp;omega)).trans (h.block q h1 h2)⟩
theorem yW {W w:World}{r:Option Nat} (h:W.grownBy w r):W.grownBy w.drew r:=⟨h.os,h.tape,h.output,h.size,h.block⟩
theorem Zr.gu {lo b g:Nat}{W w:World}{R:PX} (h:Zr lo W b R) (k:W.grownBy w (some g)) (hg:lo≤g):Zr lo w b R:=h.Uv ((zE lo W).grown k h.low.2 (fun q e=>by simp at e;omega))
theorem Zr.drew {lo b:Nat}{W:World}{R:PX} (h:Zr lo W b R):Zr lo W.drew b R:=h.Uv ⟨rfl,rfl,rfl,zD _,fun _ _=>rfl⟩
theorem Bj {W w:World}{lo b g:Nat}{R:PX}{b0 b1 b2:Value}{T:TypeId} (hg:W.grownBy w (some b)) (hz:Zr lo w b R) (hl:lo≤W.heap.size) (hW:W.heap.size≤g) (hr:w.heap[g]?=some (.cells #[b0,b1,b2] T (0,0))) (a0 a1 a2:Value) :
  (((w.setCell ⟨g,0,none⟩ a0).setCell ⟨g,1,none⟩ a1).setCell ⟨g,2,none⟩ a2).drew.heap[g]?=some (.cells #[a0,a1,a2] T (0,0))∧W.grownBy (((w.setCell ⟨g,0,none⟩ a0).setCell ⟨g,1,none⟩ a1).setCell ⟨g,2,none⟩ a2).drew (some b)∧Zr lo (((w.setCell ⟨g,0,none⟩ a0).setCell ⟨g,1,none⟩ a1).setCell ⟨g,2,none⟩ a2).drew b R:=by
 obtain ⟨h1,h2⟩:=Fv hr a0 a1 a2
 exact ⟨h1,yW (cx hg h2 hW),(hz.gu h2 (Nat.le_trans hl hW)).drew⟩
theorem eJ {i:Int} (h:0≤i∧i≤16384):wrap64 (i+1)=i+1:=by
 obtain ⟨h1,h2⟩:=h
 unfold wrap64
 omega
def txV (p:ByteArray×Tk):Value:=.tuple #[.string p.1,p.2.val]
def abp (v:Value):Prop:=∃(x:ByteArray) (t:Tk),v=.tuple #[.string x,t.val]
def xu (k kd:Int) (R:PX):PX:=if kd=k then R else kP R
def lX (c sp:Int) (R:PX):PX:=if c=0 then R else mL c sp R
def H7 (kd sp:Int) (c:Int) (R:PX):PX:=lX c sp (xu 3 kd R)
theorem abd {R:PX}{kd sp c:Int}{tx x:ByteArray} (hp:EF R ⟨kd,sp,tx⟩) (hu:fk tx=(x,c)):(∀s,H7 kd sp c R=.ok s→0<s.ts.length∨s.en.kind≠5)∧kK (H7 kd sp c R)=aT (al R cG)∧∀a s,al R cG=.ok (a,s)→a=(x,⟨kd,sp,tx⟩):=by
 match R,hp with
 |.error y,hp =>
  have e:H7 kd sp c (.error y)=.error y:=by
   unfold H7 lX xu
   split<;>split<;>rfl
  rw[e]
  exact ⟨fun _ e=>(by cases e),rfl,fun _ _ e=>(by cases e)⟩
 |.ok s,hp =>
  obtain ⟨h1,h2,h3⟩:=hp
  by_cases hk:kd=3
  ·have ht:(⟨kd,sp,tx⟩:Tk)=s.here:=h3 (by rw[←h1];show kd≠5;omega)
   have EV:tx=s.here.text:=congrArg Tk.text ht
   have ht3:sp=s.here.spot:=congrArg Tk.spot ht
   have LD:s.here.kind=3:=by rw[←h1];exact hk
   by_cases hc:c=0
   ·have e:H7 kd sp c (.ok s)=.ok s:=by unfold H7 lX xu;rw[if_pos hc,if_pos hk]
    have e2:cG s=.ok ((x,s.here),s.nx):=by
     unfold cG
     rw[if_pos LD,←EV,hu,if_pos hc]
    rw[e,show al (.ok s) cG=cG s from rfl,e2]
    refine ⟨fun s' e=>?_,rfl,fun a s' e=>?_⟩
    ·cases e
     by_cases he:s.en.kind=5
     ·exact .inl (bN he (by rw[LD];decide))
     ·exact .inr he
    ·cases e
     rw[ht]
   ·have e:H7 kd sp c (.ok s)=.error (c,sp):=by unfold H7 lX xu;rw[if_neg hc,if_pos hk];rfl
    have e2:cG s=.error (c,sp):=by
     unfold cG
     rw[if_pos LD,←EV,hu,if_neg hc,←ht3]
    rw[e,show al (.ok s) cG=cG s from rfl,e2]
    exact ⟨fun _ e=>(by cases e),rfl,fun _ _ e=>(by cases e)⟩
  ·have e:H7 kd sp c (.ok s)=.error (bR s):=by
    unfold H7 lX xu
    rw[if_neg hk]
    split<;>rfl
   have e2:cG s=.error (bR s):=by
    unfold cG
    rw[if_neg (by rw[←h1];exact hk)]
   rw[e,show al (.ok s) cG=cG s from rfl,e2]
   exact ⟨fun _ e=>(by cases e),rfl,fun _ _ e=>(by cases e)⟩
theorem Bd {W:World}{lo b:Nat}{R:PX} (h:Zr lo W b R):Calls Tryz.prog 66 #[.pointer (some ⟨b,0,none⟩)] W (ZQ lo b W txV abp (al R cG)):=by
 have cB:=h.low
 have eK:=(zE W.heap.size W).alloc (zD _) (.cells #[.int .i64 0,.int .i64 0,.string ⟨#[]⟩] 38)
 have H0:=ab (h.up eK)
 have HB0:=ab eK
 clear h eK
 go_enter Tryz.func66,Tryz.ntmps66
 go_wp2_with fail
 refine (gf (aa H0)).mono ?_
 rintro e w1 ⟨⟨kd,sp,tx⟩,rfl,hb,hp⟩
 have HP:=ab hp
 have ck:W.heap.size<w1.heap.size:=by have:=hb.size;rw[zJ] at this;omega
 have bQ:Below W.heap.size W w1:=(aa HB0).trans (hb.mono (by rw[zJ];omega))
 have HZ:=ab ((aa H0).up (hb.alloc hb.size (.cells #[.int .i64 kd,.int .i64 sp,.string tx] 38)))
 have hr:w1.heap[W.heap.size]?=some (.cells #[.int .i64 0,.int .i64 0,.string ⟨#[]⟩] 38 (0,0)):=(hb.block _ (by rw[zJ];omega)).trans (aH _ _)
 have HR:Hid ((w1.alloc (.cells #[.int .i64 kd,.int .i64 sp,.string tx] 38)).heap[W.heap.size]?=some (.cells #[.int .i64 0,.int .i64 0,.string ⟨#[]⟩] 38 (0,0))):=(Below.heap_alloc _ _ _ ck).trans hr
 have HQ:Hid ((w1.alloc (.cells #[.int .i64 kd,.int .i64 sp,.string tx] 38)).heap[w1.heap.size]?=some (.cells #[.int .i64 kd,.int .i64 sp,.string tx] 38 (0,0))):=aH _ _
 have jm:Hid (Below W.heap.size W (w1.alloc (.cells #[.int .i64 kd,.int .i64 sp,.string tx] 38))):=bQ.alloc bQ.size _
 unfold Tk.val
 clear hp hb bQ hr H0 HB0
 go_upto_if 11 with fail
 go_cut [] (fun wx=>Hid ((w1.alloc (.cells #[.int .i64 kd,.int .i64 sp,.string tx] 38)).grownBy wx (some b)∧Zr lo wx b (xu 3 kd R)))
 case first =>
  by_cases h1:kd=3
  ·obtain rfl:=h1
   go_wp2
   go_meet
   exact ⟨zI _ _,by unfold xu;rw[if_pos rfl];exact aa HZ⟩
  ·have e1:(kd != 3)=true:=by simpa using h1
   have H1:=ab h1
   clear h1
   go_wp2_with fail
   refine (kO (aa HZ)).mono ?_
   rintro e w3 ⟨rfl,hg,hz⟩
   have HH:Hid ((w1.alloc (.cells #[.int .i64 kd,.int .i64 sp,.string tx] 38)).grownBy w3 (some b)∧Zr lo w3 b (xu 3 kd R)):=⟨hg,by unfold xu;rw[if_neg (aa H1)];exact hz⟩
   clear hg hz
   go_wp2
   go_meet
   exact HH
 case rest =>
 obtain ⟨hg,hz⟩:=aa hcut
 have hq:=ax hg (aa HQ) (by omega)
 have hr:=ax hg (aa HR) (by omega)
 obtain ⟨⟨c0,c1,c2⟩,hf⟩:=dE hq
 have HQc:=ab hq
 have HRc:=ab hr
 have HGc:=ab hg
 have HZc:=ab hz
 clear hq hr hg hz hcut HZ HQ HR hf
 go_wp2_with fail
 refine (LV wc tx).mono ?_
 rintro e w4 ⟨fj,x,c,rfl,hu⟩
 have HU:=ab hu
 have Ug:=ab ((aa HZc).up fj)
 have ld:=b9 (V:=w4) fj (zI _ (some b))
 have Yb:=ab (ax ld (aa HQc) (by omega))
 have zQ:=ab (ax ld (aa HRc) (by omega))
 have se:=ab ((aa HGc).trans ld)
 clear fj hu ld HQc HRc HGc HZc c0 c1 c2
 obtain ⟨⟨c0,c1,c2⟩,hf⟩:=dE (aa Yb)
 clear hf
 go_upto_if 21 with fail
 go_cut [] (fun wx=>Hid (w4.grownBy wx (some b)∧Zr lo wx b (H7 kd sp c R)))
 case first =>
  by_cases h1:c=0
  ·obtain rfl:=h1
   go_wp2
   go_meet
   exact ⟨zI _ _,by unfold H7 lX;rw[if_pos rfl];exact aa Ug⟩
  ·have e1:(c != 0)=true:=by simpa using h1
   have H1:=ab h1
   clear h1
   go_wp2_with fail
   refine (gV (aa Ug) c sp (aa H1)).mono ?_
   rintro e w5 ⟨rfl,hg,hz⟩
   have HH:Hid (w4.grownBy w5 (some b)∧Zr lo w5 b (H7 kd sp c R)):=⟨hg,by unfold H7 lX;rw[if_neg (aa H1)];exact hz⟩
   clear hg hz
   go_wp2
   go_meet
   exact HH
 case rest =>
 obtain ⟨hg,hz⟩:=aa hcut
 obtain ⟨p1,p2,p3⟩:=abd (aa HP) (aa HU)
 have hq:=ax hg (aa Yb) (by omega)
 have hr:=ax hg (aa zQ) (by omega)
 have Jq:=ab ((aa se).trans hg)
 obtain ⟨i,ci,fi,bD,hi⟩:=hz.next (fun s e=>(p1 s e).resolve_right (fun q=>q (by have:=hz.2;rw[e] at this;exact this.en)))
 obtain ⟨⟨d0,d1,d2⟩,hfq⟩:=dE hq
 obtain ⟨⟨r0,r1,r2⟩,dp⟩:=dE hr
 have uu:=dp 0
 have ur:=dp 1
 have uq:=dp 2
 have ZB:w1.heap.size≠b:=by omega
 have RT:W.heap.size≠b:=by omega
 have F5:W.heap.size≠w1.heap.size:=by omega
 have Xc:=ab bD
 have HI:=ab hi
 have HRr:=ab hr
 have P2:=ab p2
 have P3:=ab p3
 clear bD hi hq hr hg hz hcut p1 p2 p3 Yb zQ se Ug c0 c1 c2 hfq dp HP HU
 go_upto_region 8 with fail
 go_region
 go_wp2
 obtain ⟨g1,z1⟩:=aa Xc (wrap64 (i+1)) (fun s e=>eJ (aa HI s e))
 obtain ⟨t1,t2,t3⟩:=Bj (b9 (aa jm) ((aa Jq).trans g1)) z1 cB.2 (zD _) (ax g1 (aa HRr) RT) (.int .i64 kd) (.int .i64 sp) (.string tx)
 refine bodyPost_ret (mX rfl _ _ W.heap.size 38 #[.int .i64 kd,.int .i64 sp,.string tx] (0,0) _ rfl t1 Tryz.underlying38 rfl lD) rfl ?_
 refine ⟨t2,by rw[←aa P2];exact t3,_,rfl,⟨x,⟨kd,sp,tx⟩,rfl⟩,fun a s e=>?_⟩
 rw[aa P3 a s e]
 rfl
theorem CX (W:World) (s:ByteArray):Calls Tryz.prog 113 #[.string s] W (aaI W s):=by
 have eK:=zE W.heap.size W
 by_cases h0:s.size≤65536
 ·have e0:=Tm (a:=s.size) (k:=65536) (by omega)
  go_enter Tryz.func113,Tryz.ntmps113
  go_wp2_with fail
  refine (C0 W s h0).mono ?_
  rintro e w1 ⟨he,⟨u,rfl,hu⟩|⟨rfl,hu⟩⟩
  ·obtain rfl:W=w1:=he.symm
   have Hu:=ab hu
   clear hu
   go_wp2
   go_ret2
   exact ⟨eK,_,_,rfl,.inr ⟨h0,.inl ⟨u,aa Hu,rfl,rfl⟩⟩⟩
  ·obtain rfl:W=w1:=he.symm
   have Hu:=ab hu
   clear hu
   go_wp2
   go_ret2
   exact ⟨eK,_,_,rfl,.inr ⟨h0,.inr ⟨aa Hu,rfl,rfl⟩⟩⟩
 ·have e0:=Tl (a:=s.size) (k:=65536) (by omega)
  go_enter Tryz.func113,Tryz.ntmps113
  go_wp2
  go_ret2
  exact ⟨eK,_,_,rfl,.inl ⟨by omega,rfl,rfl⟩⟩
theorem bL {w:World}{k:Nat}{o:Obj} (h:w.heap[k]?=some o) (p:Obj):(w.alloc p).heap[k]?=some o:=(Below.heap_alloc _ _ _ (zA h).1).trans h
theorem JA (W:World) (x:ByteArray):Calls Tryz.prog 113 #[.string x] W fun e w=>e=.returned (.tuple #[.int .i64 (cZ x).1,.int .i64 (cZ x).2])∧Below W.heap.size W w:=by
 refine (CX W x).mono ?_
 rintro e w ⟨hb,n,c,rfl,hu⟩
 refine ⟨?_,hb⟩
 unfold cZ
 rcases hu with ⟨h1,rfl,rfl⟩|⟨h1,⟨u,h2,rfl,rfl⟩|⟨h2,rfl,rfl⟩⟩
 ·rw[if_pos h1]
 ·rw[if_neg (by omega),h2]
 ·rw[if_neg (by omega),h2]
def YK (p:Int×Tk):Value:=.tuple #[.int .i64 p.1,p.2.val]
def YX (v:Value):Prop:=∃(n:Int) (t:Tk),v=.tuple #[.int .i64 n,t.val]
def Kg (ls:Bool) (R:PX):PX:=if ls=true then kK R else R
def Tg (n sp:Int) (ls:Bool) (R:PX):PX:=if 2147483648<n∨(2147483647<n∧ls=false) then mL 55 sp R else R
def J' (ls:Bool) (kd sp n c:Int) (R:PX):PX:=Tg n sp ls (lX c sp (xu 2 kd R))
theorem Ri (ls:Bool) (kd sp n c:Int) (y:Int×Int):J' ls kd sp n c (.error y)=.error y:=by
 unfold J' Tg lX xu
 split<;>split<;>split<;>rfl
theorem YI {R:PX}{mi:Bool}{kd sp:Int}{tx:ByteArray} (hg:lq R) (hp:EF (Kg (mi&&fU R 4 ⟨#[45]⟩) R) ⟨kd,sp,tx⟩):(∀s,J' (mi&&fU R 4 ⟨#[45]⟩) kd sp (cZ tx).1 (cZ tx).2 (Kg (mi&&fU R 4 ⟨#[45]⟩) R)=.ok s→0<s.ts.length)∧kK (J' (mi&&fU R 4 ⟨#[45]⟩) kd sp (cZ tx).1 (cZ tx).2 (Kg (mi&&fU R 4 ⟨#[45]⟩) R))=aT (al R (jc mi))∧∀a s,al R (jc mi)=.ok (a,s)→a=(if (mi&&fU R 4 ⟨#[45]⟩)=true then -(cZ tx).1 else (cZ tx).1,⟨kd,sp,tx⟩):=by
 match R,hg,hp with
 |.error y,_,hp =>
  have e0:(mi&&fU (.error y) 4 ⟨#[45]⟩)=false:=by show (mi&&false)=false;rw[Bool.and_false]
  rw[e0,show Kg false (.error y)=.error y from rfl,Ri]
  exact ⟨fun _ e=>(by cases e),rfl,fun _ _ e=>(by cases e)⟩
 |.ok s,hg,hp =>
  have key:∀(ls:Bool) (u:ay),u.en.kind=5→EF (.ok u) ⟨kd,sp,tx⟩→(∀s',J' ls kd sp (cZ tx).1 (cZ tx).2 (.ok u)=.ok s'→0<s'.ts.length)∧kK (J' ls kd sp (cZ tx).1 (cZ tx).2 (.ok u))=aT (nY ls u)∧∀a s',nY ls u=.ok (a,s')→a=(if ls=true then -(cZ tx).1 else (cZ tx).1,⟨kd,sp,tx⟩):=by
   intro ls u hu hp
   obtain ⟨h1,h2,h3⟩:=hp
   by_cases hk:kd=2
   ·have ht:(⟨kd,sp,tx⟩:Tk)=u.here:=h3 (by rw[←h1];show kd≠5;omega)
    have EV:tx=u.here.text:=congrArg Tk.text ht
    have ht3:sp=u.here.spot:=congrArg Tk.spot ht
    have LD:u.here.kind=2:=by rw[←h1];exact hk
    have dL:0<u.ts.length:=bN hu (by rw[LD];decide)
    unfold J' nY
    rw[if_pos LD,←EV]
    by_cases hc:(cZ tx).2=0
    ·rw[if_pos hc,show lX (cZ tx).2 sp (xu 2 kd (.ok u))=.ok u by unfold lX xu;rw[if_pos hc,if_pos hk]]
     unfold Tg
     by_cases hr:2147483648<(cZ tx).1∨(2147483647<(cZ tx).1∧ls=false)
     ·rw[if_pos hr,if_pos hr]
      exact ⟨fun _ e=>(by cases e),by rw[ht3];rfl,fun _ _ e=>(by cases e)⟩
     ·rw[if_neg hr,if_neg hr]
      refine ⟨fun s' e=>(by cases e;exact dL),rfl,fun a s' e=>?_⟩
      cases e
      rw[ht]
    ·rw[if_neg hc,show lX (cZ tx).2 sp (xu 2 kd (.ok u))=.error ((cZ tx).2,sp) by unfold lX xu;rw[if_neg hc,if_pos hk];rfl]
     have e1:Tg (cZ tx).1 sp ls (.error ((cZ tx).2,sp))=.error ((cZ tx).2,sp):=by unfold Tg;split<;>rfl
     rw[e1]
     exact ⟨fun _ e=>(by cases e),by rw[ht3];rfl,fun _ _ e=>(by cases e)⟩
   ·have e1:J' ls kd sp (cZ tx).1 (cZ tx).2 (.ok u)=.error (bR u):=by
     unfold J' lX xu Tg
     rw[if_neg hk]
     split<;>split<;>rfl
    have e2:nY ls u=.error (bR u):=by unfold nY;rw[if_neg (by rw[←h1];exact hk)]
    rw[e1,e2]
    exact ⟨fun _ e=>(by cases e),rfl,fun _ _ e=>(by cases e)⟩
  show _∧_=aT (jc mi s)∧∀a s',jc mi s=.ok (a,s')→_
  unfold jc
  rw[show fU (.ok s) 4 ⟨#[45]⟩=aJ s.here 4 ⟨#[45]⟩ from rfl] at hp ⊢
  obtain ⟨q,hq⟩:∃q,(mi&&aJ s.here 4 ⟨#[45]⟩)=q:=⟨_,rfl⟩
  rw[hq] at hp ⊢
  cases q with
  |true=>exact key true s.nx hg.en hp
  |false=>exact key false s hg.en hp
theorem si {W:World}{lo b:Nat}{R:PX} (h:Zr lo W b R) (mi:Bool):Calls Tryz.prog 74 #[.pointer (some ⟨b,0,none⟩),.bool mi] W (ZQ lo b W YK YX (al R (jc mi))):=by
 have cB:=h.low
 have l9:Hid (lq R):=h.2
 have HZ:=ab h
 have HG:Hid (W.grownBy W (some b)):=zI _ _
 clear h
 have Vm:b<W.heap.size:=by have:=(aa HG).size;omega
 have aV:=ab (aH (W) (.cells #[.int .i64 0,.int .i64 0,.string ⟨#[]⟩] 38))
 replace HZ:=ab ((aa HZ).up ((zE _ _).alloc (zD _) (.cells #[.int .i64 0,.int .i64 0,.string ⟨#[]⟩] 38)))
 replace HG:=ab ((aa HG).trans (aO ((zE _ _).alloc (zD _) (.cells #[.int .i64 0,.int .i64 0,.string ⟨#[]⟩] 38)) (some b)))
 go_enter Tryz.func74,Tryz.ntmps74
 go_upto_region 1 with fail
 go_cut [6] (fun v6 wx=>v6=.bool (mi&&fU R 4 ⟨#[45]⟩)∧Hid (Below (W.alloc (.cells #[.int .i64 0,.int .i64 0,.string ⟨#[]⟩] 38)).heap.size (W.alloc (.cells #[.int .i64 0,.int .i64 0,.string ⟨#[]⟩] 38)) wx))
 case first =>
  cases mi with
  |false =>
   go_wp2
   go_meet
   exact ⟨rfl,zE _ _⟩
  |true =>
   go_wp2_with fail
   refine (iw (aa HZ) 4 (by decide) ⟨#[45]⟩).mono ?_
   rintro e w0 ⟨rfl,hb⟩
   have HB:=ab hb
   clear hb
   go_wp2
   go_meet
   exact ⟨rfl,HB⟩
 case rest =>
 obtain ⟨w1,fP⟩:∃x,x=wc:=⟨_,rfl⟩
 subst fP
 obtain ⟨rfl,hb⟩:=hcut
 replace HZ:=ab ((aa HZ).up (aa hb))
 have hg:=aO (aa hb) (some b)
 replace aV:=ab (ax hg (aa aV) (by omega))
 replace HG:=ab ((aa HG).trans hg)
 clear hg hb
 obtain ⟨ls,VC⟩:∃q,(mi&&fU R 4 ⟨#[45]⟩)=q:=⟨_,rfl⟩
 rw[VC]
 have tj:=ab VC
 clear VC
 obtain ⟨⟨xC,xB,xA⟩,dp⟩:=dE (aa aV)
 have uu:=dp 0
 have ur:=dp 1
 have uq:=dp 2
 clear dp
 go_upto_if 15 with fail
 go_cut [] (fun wx=>Hid (World.grownBy (w1) wx (some b)∧Zr lo wx b (Kg ls R)))
 case first =>
  cases ls with
  |false =>
   go_wp2
   go_meet
   exact ⟨zI _ _,aa HZ⟩
  |true =>
   have VC:=aa tj
   rw[Bool.and_eq_true] at VC
   obtain ⟨s,rfl,hq⟩:=fB VC.2
   obtain ⟨i,ci,fi,bD,hi⟩:=(aa HZ).next (fun s' e=>by cases e;exact eR (aa l9).en hq (by decide))
   have Xc:=ab (bD (wrap64 (i+1)) (fun s e=>eJ (hi s e)))
   clear bD hi VC hq
   go_wp2
   go_meet
   exact aa Xc
 case rest =>
 obtain ⟨w2,fP⟩:∃x,x=wc:=⟨_,rfl⟩
 subst fP
 clear xC xB xA uu ur uq
 obtain ⟨hg,hz⟩:=aa hcut
 replace HZ:=ab hz
 replace aV:=ab (ax hg (aa aV) (by omega))
 replace HG:=ab ((aa HG).trans hg)
 clear hg hz hcut
 obtain ⟨⟨xC,xB,xA⟩,dp⟩:=dE (aa aV)
 have uu:=dp 0
 have ur:=dp 1
 have uq:=dp 2
 clear dp
 go_wp2_with fail
 refine (gf (aa HZ)).mono ?_
 rintro e w3 ⟨⟨kt,pt,tt⟩,rfl,hb,hp⟩
 clear xC xB xA uu ur uq
 have pB:=ab hp
 replace HZ:=ab ((aa HZ).up hb)
 have hg:=aO hb (some b)
 replace aV:=ab (ax hg (aa aV) (by omega))
 replace HG:=ab ((aa HG).trans hg)
 clear hb hp hg
 unfold Tk.val
 have NZ:b<w3.heap.size:=by have:=(aa HG).size;omega
 have DV:W.heap.size<w3.heap.size:=by have h:=(zA (aa aV)).1;exact h
 replace aV:=ab (bL (aa aV) (.cells #[.int .i64 kt,.int .i64 pt,.string tt] 38))
 have aZ:=ab (aH (w3) (.cells #[.int .i64 kt,.int .i64 pt,.string tt] 38))
 replace HZ:=ab ((aa HZ).up ((zE _ _).alloc (zD _) (.cells #[.int .i64 kt,.int .i64 pt,.string tt] 38)))
 replace HG:=ab ((aa HG).trans (aO ((zE _ _).alloc (zD _) (.cells #[.int .i64 kt,.int .i64 pt,.string tt] 38)) (some b)))
 obtain ⟨⟨xC,xB,xA⟩,dp⟩:=dE (aa aV)
 have uu:=dp 0
 have ur:=dp 1
 have uq:=dp 2
 clear dp
 obtain ⟨⟨EZ,EY,EX⟩,mF⟩:=dE (aa aZ)
 have KQ:=mF 0
 have KP:=mF 1
 have KO:=mF 2
 clear mF
 go_upto_if 27 with fail
 go_cut [] (fun wx=>Hid (World.grownBy (w3.alloc (.cells #[.int .i64 kt,.int .i64 pt,.string tt] 38)) wx (some b)∧Zr lo wx b (xu 2 kt (Kg ls R))))
 case first =>
  by_cases h1:(kt≠2)
  ·have e1:(kt != 2)=true:=by simpa using h1
   have H1:=ab h1
   clear h1
   go_wp2_with fail
   refine (kO (aa HZ)).mono ?_
   rintro e w0 ⟨rfl,hg,hz⟩
   have HH:Hid (World.grownBy (w3.alloc (.cells #[.int .i64 kt,.int .i64 pt,.string tt] 38)) w0 (some b)∧Zr lo w0 b (xu 2 kt (Kg ls R))):=⟨hg,by unfold xu;rw[if_neg (aa H1)];exact hz⟩
   clear hg hz
   go_wp2
   go_meet
   exact HH
  ·have e1:(kt != 2)=false:=by simpa using h1
   have HH:Hid (World.grownBy (w3.alloc (.cells #[.int .i64 kt,.int .i64 pt,.string tt] 38)) (w3.alloc (.cells #[.int .i64 kt,.int .i64 pt,.string tt] 38)) (some b)∧Zr lo (w3.alloc (.cells #[.int .i64 kt,.int .i64 pt,.string tt] 38)) b (xu 2 kt (Kg ls R))):=⟨zI _ _,by unfold xu;rw[if_pos (Decidable.not_not.1 h1)];exact aa HZ⟩
   clear h1
   go_wp2
   go_meet
   exact HH
 case rest =>
 obtain ⟨w4,fP⟩:∃x,x=wc:=⟨_,rfl⟩
 subst fP
 clear xC xB xA uu ur uq EZ EY EX KQ KP KO
 obtain ⟨hg,hz⟩:=aa hcut
 replace HZ:=ab hz
 replace aV:=ab (ax hg (aa aV) (by omega))
 replace aZ:=ab (ax hg (aa aZ) (by omega))
 replace HG:=ab ((aa HG).trans hg)
 clear hg hz hcut
 obtain ⟨⟨xC,xB,xA⟩,dp⟩:=dE (aa aV)
 have uu:=dp 0
 have ur:=dp 1
 have uq:=dp 2
 clear dp
 obtain ⟨⟨EZ,EY,EX⟩,mF⟩:=dE (aa aZ)
 have KQ:=mF 0
 have KP:=mF 1
 have KO:=mF 2
 clear mF
 go_wp2_with fail
 refine (JA w4 tt).mono ?_
 rintro e w5 ⟨rfl,hb⟩
 clear xC xB xA uu ur uq EZ EY EX KQ KP KO
 replace HZ:=ab ((aa HZ).up hb)
 have hg:=aO hb (some b)
 replace aV:=ab (ax hg (aa aV) (by omega))
 replace aZ:=ab (ax hg (aa aZ) (by omega))
 replace HG:=ab ((aa HG).trans hg)
 clear hb hg
 have HN:=ab (YI (mi:=mi) (kd:=kt) (sp:=pt) (tx:=tt) (aa l9) (by rw[aa tj];exact aa pB))
 have eo:=nZ tt
 obtain ⟨n,hn⟩:∃n,(cZ tt).1=n:=⟨_,rfl⟩
 obtain ⟨c,hc⟩:∃n,(cZ tt).2=n:=⟨_,rfl⟩
 rw[hn,hc,aa tj] at HN
 rw[hn] at eo
 rw[hn,hc]
 have acM:=ab eo
 clear hn hc eo
 obtain ⟨⟨xC,xB,xA⟩,dp⟩:=dE (aa aV)
 have uu:=dp 0
 have ur:=dp 1
 have uq:=dp 2
 clear dp
 obtain ⟨⟨EZ,EY,EX⟩,mF⟩:=dE (aa aZ)
 have KQ:=mF 0
 have KP:=mF 1
 have KO:=mF 2
 clear mF
 go_upto_if 37 with fail
 go_cut [] (fun wx=>Hid (World.grownBy (w5) wx (some b)∧Zr lo wx b (lX c pt (xu 2 kt (Kg ls R)))))
 case first =>
  by_cases h1:(c≠0)
  ·have e1:(c != 0)=true:=by simpa using h1
   have H1:=ab h1
   clear h1
   go_wp2_with fail
   refine (gV (aa HZ) c pt (aa H1)).mono ?_
   rintro e w0 ⟨rfl,hg,hz⟩
   have HH:Hid (World.grownBy (w5) w0 (some b)∧Zr lo w0 b (lX c pt (xu 2 kt (Kg ls R)))):=⟨hg,by unfold lX;rw[if_neg (aa H1)];exact hz⟩
   clear hg hz
   go_wp2
   go_meet
   exact HH
  ·have e1:(c != 0)=false:=by simpa using h1
   have HH:Hid (World.grownBy (w5) (w5) (some b)∧Zr lo (w5) b (lX c pt (xu 2 kt (Kg ls R)))):=⟨zI _ _,by unfold lX;rw[if_pos (Decidable.not_not.1 h1)];exact aa HZ⟩
   clear h1
   go_wp2
   go_meet
   exact HH
 case rest =>
 obtain ⟨w6,fP⟩:∃x,x=wc:=⟨_,rfl⟩
 subst fP
 clear xC xB xA uu ur uq EZ EY EX KQ KP KO
 obtain ⟨hg,hz⟩:=aa hcut
 replace HZ:=ab hz
 replace aV:=ab (ax hg (aa aV) (by omega))
 replace aZ:=ab (ax hg (aa aZ) (by omega))
 replace HG:=ab ((aa HG).trans hg)
 clear hg hz hcut
 obtain ⟨⟨xC,xB,xA⟩,dp⟩:=dE (aa aV)
 have uu:=dp 0
 have ur:=dp 1
 have uq:=dp 2
 clear dp
 obtain ⟨⟨EZ,EY,EX⟩,mF⟩:=dE (aa aZ)
 have KQ:=mF 0
 have KP:=mF 1
 have KO:=mF 2
 clear mF
 go_upto_region 10 with fail
 go_cut [52] (fun v52 wx=>v52=.bool (decide (2147483648<n∨(2147483647<n∧ls=false)))∧wx=w6)
 case first =>
  by_cases g1:2147483648<n
  ·have e1:decide (2147483648<n)=true:=by simpa using g1
   have e2:decide (2147483648<n∨(2147483647<n∧ls=false))=true:=decide_eq_true (Or.inl g1)
   clear g1
   go_wp2
   go_meet
   exact ⟨congrArg Value.bool e2.symm,rfl⟩
  ·have e1:decide (2147483648<n)=false:=by simpa using g1
   by_cases g2:2147483647<n
   ·have e2:decide (2147483647<n)=true:=by simpa using g2
    cases ls with
    |true =>
     have e3:decide (2147483648<n∨(2147483647<n∧true=false))=false:=decide_eq_false (fun q=>q.elim g1 (fun q=>by cases q.2))
     clear g1 g2
     go_wp2
     go_meet
     exact ⟨congrArg Value.bool e3.symm,rfl⟩
    |false =>
     have e3:decide (2147483648<n∨(2147483647<n∧false=false))=true:=decide_eq_true (Or.inr ⟨g2,rfl⟩)
     clear g1 g2
     go_wp2
     go_meet
     exact ⟨congrArg Value.bool e3.symm,rfl⟩
   ·have e2:decide (2147483647<n)=false:=by simpa using g2
    have e3:decide (2147483648<n∨(2147483647<n∧ls=false))=false:=decide_eq_false (fun q=>q.elim g1 (fun q=>g2 q.1))
    clear g1 g2
    go_wp2
    go_meet
    exact ⟨congrArg Value.bool e3.symm,rfl⟩
 case rest =>
 obtain ⟨rfl,fP⟩:=hcut
 have hwd:=fP.symm
 subst hwd
 obtain ⟨pb,Kw⟩:∃q,decide (2147483648<n∨(2147483647<n∧ls=false))=q:=⟨_,rfl⟩
 rw[Kw]
 have WU:=ab Kw
 clear Kw
 go_upto_if 52 with fail
 go_cut [] (fun wx=>Hid (World.grownBy (w6) wx (some b)∧Zr lo wx b (J' ls kt pt n c (Kg ls R))))
 case first =>
  cases pb with
  |true =>
   go_wp2_with fail
   refine (gV (aa HZ) 55 pt (by decide)).mono ?_
   rintro e w0 ⟨rfl,hg,hz⟩
   have HH:Hid (World.grownBy (w6) w0 (some b)∧Zr lo w0 b (J' ls kt pt n c (Kg ls R))):=⟨hg,by unfold J' Tg;rw[if_pos (of_decide_eq_true (aa WU))];exact hz⟩
   clear hg hz
   go_wp2
   go_meet
   exact HH
  |false =>
   go_wp2
   go_meet
   exact ⟨zI _ _,by unfold J' Tg;rw[if_neg (of_decide_eq_false (aa WU))];exact aa HZ⟩
 case rest =>
 obtain ⟨w7,fP⟩:∃x,x=wc:=⟨_,rfl⟩
 subst fP
 clear xC xB xA uu ur uq EZ EY EX KQ KP KO
 obtain ⟨hg,hz⟩:=aa hcut
 replace HZ:=ab hz
 replace aV:=ab (ax hg (aa aV) (by omega))
 replace aZ:=ab (ax hg (aa aZ) (by omega))
 replace HG:=ab ((aa HG).trans hg)
 clear hg hz hcut
 obtain ⟨p1,p2,p3⟩:=aa HN
 have P2:=ab p2
 have P3:=ab p3
 obtain ⟨i7,ci,fi,bD,hi⟩:=(aa HZ).next (p1)
 obtain ⟨g1,z1⟩:=bD (wrap64 (i7+1)) (fun s e=>eJ (hi s e))
 obtain ⟨⟨xC,xB,xA⟩,dp⟩:=dE (aa aV)
 have uu:=dp 0
 have ur:=dp 1
 have uq:=dp 2
 clear dp
 obtain ⟨⟨EZ,EY,EX⟩,mF⟩:=dE (aa aZ)
 have KQ:=mF 0
 have KP:=mF 1
 have KO:=mF 2
 clear mF
 replace aV:=ab (ax g1 (aa aV) (by omega))
 replace aZ:=ab (ax g1 (aa aZ) (by omega))
 replace HG:=ab ((aa HG).trans g1)
 replace HZ:=ab z1
 clear g1 z1 bD hi
 clear p1 p2 p3 HN WU pB tj l9
 have ZB:w3.heap.size≠b:=by omega
 have RT:W.heap.size≠b:=by omega
 have F5:W.heap.size≠w3.heap.size:=by omega
 obtain ⟨t1,t2,t3⟩:=Bj (aa HG) (aa HZ) cB.2 (zD _) (aa aV) (.int .i64 kt) (.int .i64 pt) (.string tt)
 have T1:=ab t1
 have T2:=ab t2
 have T3:=ab t3
 clear t1 t2 t3
 cases ls with
 |false =>
  go_upto_region 15 with fail
  go_region
  go_wp2
  refine bodyPost_ret (mX rfl _ _ W.heap.size 38 #[.int .i64 kt,.int .i64 pt,.string tt] (0,0) _ rfl (aa T1) Tryz.underlying38 rfl lD) rfl ?_
  refine ⟨aa T2,by rw[←aa P2];exact aa T3,_,rfl,⟨n,⟨kt,pt,tt⟩,rfl⟩,fun a s e=>?_⟩
  rw[aa P3 a s e]
  rfl
 |true =>
  have hf:=aa acM
  go_upto_region 14 with fail
  go_region
  go_wp2
  refine bodyPost_ret (mX rfl _ _ W.heap.size 38 #[.int .i64 kt,.int .i64 pt,.string tt] (0,0) _ rfl (aa T1) Tryz.underlying38 rfl lD) rfl ?_
  refine ⟨aa T2,by rw[←aa P2];exact aa T3,_,rfl,⟨-n,⟨kt,pt,tt⟩,rfl⟩,fun a s e=>?_⟩
  rw[aa P3 a s e]
  rfl
end Go.Proofs.YtjophoclfccmcaaGreatDoor

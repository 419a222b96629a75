import Derived.Test.YtjophoclfccmcaaGreatDoorM36
set_option maxHeartbeats 2000000
set_option maxRecDepth 100000
namespace Go.Proofs.YtjophoclfccmcaaGreatDoor
open Go.RowKit
attribute [local go_sem ↓] Go.wp_at_zero Go.wp_at_succ
theorem fh {α β:Type} (r:Except (Int×Int) (α×ax)) (G:ax→Except (Int×Int) (β×ax)):al (aT r) G=bQ r (fun _ s=>G s):=by
 cases r with
 |ok p=>rfl
 |error y=>rfl
theorem jE {α β:Type} (R:PX) (F:ax→Except (Int×Int) (α×ax)) (G:α→ax→Except (Int×Int) (β×ax)):bQ (al R F) G=al R (fun s=>bQ (F s) G):=by
 cases R with
 |ok p=>rfl
 |error y=>rfl
theorem seq_assoc {α β γ:Type} (r:Except (Int×Int) (α×ax)) (F:α→ax→Except (Int×Int) (β×ax)) (G:β→ax→Except (Int×Int) (γ×ax)):bQ (bQ r F) G=bQ r (fun a s=>bQ (F a s) G):=by
 cases r with
 |ok p=>rfl
 |error y=>rfl
theorem Fs {x:ByteArray}{t:Tk}{a:ByteArray×Tk} (h:(Value.tuple #[.string x,.agg #[.int .i64 t.kind,.int .i64 t.spot,.string t.text]])=txV a):a=(x,t):=by
 obtain ⟨m,⟨k,q,y⟩⟩:=a
 obtain ⟨k',q',y'⟩:=t
 simp only[txV,Tk.val,Value.tuple.injEq,Array.mk.injEq,List.cons.injEq,Value.int.injEq,Value.agg.injEq,Value.string.injEq] at h
 obtain ⟨rfl,⟨⟨_,rfl⟩,⟨_,rfl⟩,rfl,_⟩,_⟩:=h
 rfl
theorem xz (c sp:Int) (y:Int×Int):lU c sp (.error y)=.error y:=by unfold lU;split<;>rfl
theorem Ns {R:PX}{ff:ByteArray→Int}{x:ByteArray}{t:Tk}{sp:Int} (hg:lp R) (hs:t.spot=sp) (hv:∀a s,al R cH=.ok (a,s)→a=(x,t)):lU (ff x) sp (aT (al R cH))=aT (al R (bE ff))∧∀a s,al R (bE ff)=.ok (a,s)→a=x:=by
 match R,hg,hv with
 |.error y,_,_=>exact ⟨xz _ _ _,fun _ _ e=>(by cases e)⟩
 |.ok s,hg,hv =>
  have hm:=FV hg.bg ff
  show lU (ff x) sp (aT (cH s))=aT (bE ff s)∧∀a s',bE ff s=.ok (a,s')→a=x
  rw[hm]
  cases ht:cH s with
  |error y=>exact ⟨xz _ _ _,fun _ _ e=>(by cases e)⟩
  |ok p =>
   obtain ⟨a,s1⟩:=p
   obtain rfl:=hv a s1 ht
   rw[aK]
   unfold lU
   by_cases hc:ff x=0
   ·rw[if_pos hc,if_pos hc]
    exact ⟨rfl,fun _ _ e=>(by cases e;rfl)⟩
   ·rw[if_neg hc,if_neg hc]
    exact ⟨by rw[←hs];rfl,fun _ _ e=>(by cases e)⟩
theorem mV (w:World) (l:List ByteArray) (T:TypeId) (h:l.length≤100:=by decide):sX (w.alloc (.cells (dV l).toArray T)) (.slice (some ⟨w.heap.size,0,none⟩) l.length l.length) l.length (dV l):=by
 refine ⟨some ⟨w.heap.size,0,none⟩,l.length,rfl,by unfold maxLen;omega,fun _=>⟨w.heap.size,rfl,by rw[zJ];omega,fun j x hj=>?_⟩⟩
 rw[World.cell?_alloc_at _ _ _ _ rfl,List.getElem?_toArray]
 exact hj
def Dh:ByteArray:=⟨#[115,121,110,116,97,120]⟩
noncomputable def Bv (s:ax):Except (Int×Int) (Unit×ax):=bQ (cn Dh s) (fun _ s1=>bQ (au ⟨#[61]⟩ s1) (fun _ s2=>bQ (bE dG s2) (fun _ s3=>au ⟨#[59]⟩ s3)))
theorem Jx {W:World}{lo b:Nat}{R:PX} (h:Zr lo W b R):Calls Tryz.prog 34 #[.pointer (some ⟨b,0,none⟩)] W (ZQ lo b W tV U4 (al R Bv)):=by
 have cC:=h.low
 have HZ:=ab h
 have HG:Hid (W.grownBy W (some b)):=zI _ _
 clear h
 go_enter Tryz.func34,Tryz.ntmps34
 go_wp2_with fail
 refine (oL (aa HZ) Dh).mono ?_
 rintro e w1 ⟨hg,hz,v1,rfl,F8,tF⟩
 replace HZ:=ab hz
 replace HG:=ab ((aa HG).trans hg)
 clear hg hz
 obtain rfl:=F8
 clear tF
 go_wp2_with fail
 refine (eZ (aa HZ) ⟨#[61]⟩).mono ?_
 rintro e w2 ⟨hg,hz,v2,rfl,B0,zS⟩
 replace HZ:=ab hz
 replace HG:=ab ((aa HG).trans hg)
 clear hg hz
 obtain rfl:=B0
 clear zS
 have SY:=ab (aa HZ).2
 go_wp2_with fail
 refine (Bn (aa HZ)).mono ?_
 rintro e w3 ⟨hg,hz,v3,rfl,nc,lu⟩
 replace HZ:=ab hz
 replace HG:=ab ((aa HG).trans hg)
 clear hg hz
 obtain ⟨x,⟨kt,pt,tt⟩,rfl⟩:=nc
 have HV:Hid (∀a s,al (aT (al (aT (al R (cn Dh))) (au ⟨#[61]⟩))) cH=.ok (a,s)→a=(x,(⟨kt,pt,tt⟩:Tk))):=fun a s e=>Fs (lu a s e)
 clear lu
 unfold Tk.val
 have NN:b<w3.heap.size:=by have:=(aa HG).size;omega
 have Ry:W.heap.size≤w3.heap.size:=by have:=(aa HG).size;omega
 have aZ:=ab (aF (w3) (.cells #[.int .i64 kt,.int .i64 pt,.string tt] 38))
 replace HZ:=ab ((aa HZ).up ((zE _ _).alloc (zD _) (.cells #[.int .i64 kt,.int .i64 pt,.string tt] 38)))
 replace HG:=ab ((aa HG).trans (aM ((zE _ _).alloc (zD _) (.cells #[.int .i64 kt,.int .i64 pt,.string tt] 38)) (some b)))
 have Cn:=seen (aa aZ)
 have B7:=frzn (aa aZ)
 obtain ⟨q,hq⟩:∃q,(x.toList==[112,114,111,116,111,51])=q:=⟨_,rfl⟩
 have HQ:=ab hq
 go_upto_if 14 with fail
 go_cut [] (fun wx=>Hid (World.grownBy (w3.alloc (.cells #[.int .i64 kt,.int .i64 pt,.string tt] 38)) wx (some b)∧Zr lo wx b (lU (dG x) pt (aT (al (aT (al (aT (al R (cn Dh))) (au ⟨#[61]⟩))) cH)))))
 case first =>
  cases q with
  |true =>
   have HH:Hid (World.grownBy (w3.alloc (.cells #[.int .i64 kt,.int .i64 pt,.string tt] 38)) (w3.alloc (.cells #[.int .i64 kt,.int .i64 pt,.string tt] 38)) (some b)∧Zr lo (w3.alloc (.cells #[.int .i64 kt,.int .i64 pt,.string tt] 38)) b (lU (dG x) pt (aT (al (aT (al (aT (al R (cn Dh))) (au ⟨#[61]⟩))) cH)))):=⟨zI _ _,by unfold lU dG;rw[if_pos (aa HQ),if_pos rfl];exact aa HZ⟩
   go_wp2
   go_meet
   exact HH
  |false =>
   go_wp2_with fail
   refine (gX (aa HZ) 50 pt (by decide)).mono ?_
   rintro e w0 ⟨rfl,hg,hz⟩
   have HH:Hid (World.grownBy (w3.alloc (.cells #[.int .i64 kt,.int .i64 pt,.string tt] 38)) w0 (some b)∧Zr lo w0 b (lU (dG x) pt (aT (al (aT (al (aT (al R (cn Dh))) (au ⟨#[61]⟩))) cH)))):=⟨hg,by
    have eb:¬(x.toList==[112,114,111,116,111,51])=true:=fun q=>by rw[aa HQ] at q;cases q
    unfold lU dG
    rw[if_neg eb,if_neg (by decide)]
    exact hz⟩
   clear hg hz
   go_wp2
   go_meet
   exact HH
 case rest =>
 obtain ⟨w4,fV⟩:∃x,x=wc:=⟨_,rfl⟩
 subst fV
 clear Cn B7
 obtain ⟨hg,hz⟩:=aa hcut
 replace HZ:=ab hz
 replace aZ:=ab (aw hg (aa aZ) (by omega))
 replace HG:=ab ((aa HG).trans hg)
 clear hg hz hcut
 clear hq HQ
 have lV:=seen (aa aZ)
 have lR:=frzn (aa aZ)
 go_wp2_with fail
 refine (eZ (aa HZ) ⟨#[59]⟩).mono ?_
 rintro e w5 ⟨hg,hz,v5,rfl,BZ,nA⟩
 clear lV lR
 replace HZ:=ab hz
 replace aZ:=ab (aw hg (aa aZ) (by omega))
 replace HG:=ab ((aa HG).trans hg)
 clear hg hz
 obtain rfl:=BZ
 clear nA
 have e1:=(Ns (ff:=dG) (sp:=pt) (aa SY) rfl (aa HV)).1
 replace HZ:=aa HZ
 rw[e1] at HZ
 replace HZ:=ab HZ
 clear e1 HV SY
 go_wp2
 go_end0
 refine ⟨aa HG,?_,_,rfl,rfl,fun _ _ _=>rfl⟩
 have hz:=aa HZ
 simp only[fh,jE,seq_assoc] at hz
 exact hz
theorem Is (t:Tk) (l:List ByteArray):(t.kind=1∧CK t.text l=true)↔(l.any fun x=>aH t 1 x)=true:=by
 unfold CK aH
 rw[List.any_eq_true,List.any_eq_true]
 constructor
 ·rintro ⟨h1,y,hy,h2⟩
  exact ⟨y,hy,by rw[Bool.and_eq_true];exact ⟨by simpa using h1,by rw[BEq.comm];exact h2⟩⟩
 ·rintro ⟨y,hy,h2⟩
  rw[Bool.and_eq_true] at h2
  exact ⟨by simpa using h2.1,y,hy,by rw[BEq.comm];exact h2.2⟩
theorem FG (l:List ByteArray) (s:ax):dp l s=if (l.any fun x=>aH s.here 1 x)=true then .error (52,s.here.spot) else .ok ((),s):=by
 unfold dp
 by_cases h:(l.any fun x=>aH s.here 1 x)=true
 ·rw[if_pos h,if_pos ((Is _ _).2 h)]
 ·rw[if_neg h,if_neg (fun q=>h ((Is _ _).1 q))]
def j6:ByteArray:=⟨#[105,109,112,111,114,116]⟩
theorem nk {x:ByteArray}{s:ax} (h:aH s.here 1 x=true):bQ (aN s.here.spot s) (fun _ s1=>cn x s1)=bQ (aN s.here.spot s) (fun _ s1=>.ok ((),s1.nx)):=by
 cases hb:aN s.here.spot s with
 |error y=>rfl
 |ok p =>
  rw[aK,aK]
  have e:p.2.here=s.here:=by unfold aN at hb;split at hb;cases hb;cases hb;rfl
  unfold cn
  rw[e,if_pos h]
theorem YH {R:PX}{k pt:Int}{tt x:ByteArray}{t:Tk}{sp:Int} (hg:lp R) (hp:EN R ⟨k,pt,tt⟩) (hk:∀s,R=.ok s→aH s.here 1 j6=true) (hs:t.spot=sp)
  (cO:lp (aT (al (aT (al (aT (al R (aN pt))) (cn j6))) (dp [⟨#[112,117,98,108,105,99]⟩,⟨#[119,101,97,107]⟩]))))
  (hv:∀a s,al (aT (al (aT (al (aT (al R (aN pt))) (cn j6))) (dp [⟨#[112,117,98,108,105,99]⟩,⟨#[119,101,97,107]⟩]))) cH=.ok (a,s)→a=(x,t)) :
  aT (al (lU (dR x) sp (aT (al (aT (al (aT (al (aT (al R (aN pt))) (cn j6))) (dp [⟨#[112,117,98,108,105,99]⟩,⟨#[119,101,97,107]⟩]))) cH))) (au ⟨#[59]⟩))=aT (al R bA)∧∀a s,al R bA=.ok (a,s)→a=x:=by
 obtain ⟨e1,e2⟩:=Ns (ff:=dR) cO hs hv
 rw[e1]
 match R,hg,hp,hk,e2 with
 |.error y,_,_,_,_=>exact ⟨rfl,fun _ _ e=>(by cases e)⟩
 |.ok s,hg,hp,hk,e2 =>
  have ht:pt=s.here.spot:=hp.2.1
  subst ht
  have hb:=nk (hk s rfl)
  simp only[fh,jE,seq_assoc] at e2 ⊢
  rw[show al (.ok s) bA=bA s from rfl]
  rw[show ∀F:ax→Except (Int×Int) (ByteArray×ax),al (.ok s) F=F s from fun _=>rfl] at e2
  rw[show ∀F:ax→Except (Int×Int) (Unit×ax),al (.ok s) F=F s from fun _=>rfl]
  unfold bA
  rw[gQ hg,←hb]
  cases eQ:aN s.here.spot s with
  |error y=>exact ⟨rfl,fun _ _ e=>(by cases e)⟩
  |ok p =>
   rw[eQ] at e2
   rw[aK] at e2 ⊢
   rw[aK]
   cases hw:cn j6 p.2 with
   |error y=>exact ⟨rfl,fun _ _ e=>(by cases e)⟩
   |ok p2 =>
    rw[hw] at e2
    rw[aK] at e2 ⊢
    simp only
    rw[FG] at e2 ⊢
    have ho:([⟨#[112,117,98,108,105,99]⟩,⟨#[119,101,97,107]⟩]:List ByteArray).any (fun x=>aH p2.2.here 1 x)=(aH p2.2.here 1 ⟨#[112,117,98,108,105,99]⟩ ||aH p2.2.here 1 ⟨#[119,101,97,107]⟩):=by simp
    rw[ho] at e2 ⊢
    by_cases hq:(aH p2.2.here 1 ⟨#[112,117,98,108,105,99]⟩ ||aH p2.2.here 1 ⟨#[119,101,97,107]⟩)=true
    ·rw[if_pos hq,if_pos hq]
     exact ⟨rfl,fun _ _ e=>(by cases e)⟩
    ·rw[if_neg hq] at e2
     rw[if_neg hq,if_neg hq]
     rw[aK] at e2 ⊢
     cases hm:bE dR p2.2 with
     |error y=>exact ⟨rfl,fun _ _ e=>(by cases e)⟩
     |ok q =>
      rw[aK]
      have e3:=e2 q.1 q.2 hm
      obtain ⟨a,s3⟩:=q
      simp only at e3 ⊢
      cases hn:au ⟨#[59]⟩ s3 with
      |error y=>exact ⟨rfl,fun _ _ e=>(by cases e)⟩
      |ok r=>exact ⟨rfl,fun _ _ e=>(by cases e;exact e3)⟩
theorem CY {W:World}{lo b:Nat}{R:PX} (h:Zr lo W b R) (hk:∀s,R=.ok s→aH s.here 1 j6=true):Calls Tryz.prog 39 #[.pointer (some ⟨b,0,none⟩)] W (ZQ lo b W Value.string Tj (al R bA)):=by
 have cC:=h.low
 have lZ:Hid (lp R):=h.2
 have HK:=ab hk
 have HZ:=ab h
 have HG:Hid (W.grownBy W (some b)):=zI _ _
 clear h hk
 go_enter Tryz.func39,Tryz.ntmps39
 go_wp2_with fail
 refine (gm (aa HZ)).mono ?_
 rintro e w1 ⟨⟨kt,pt,tt⟩,rfl,hb,hp⟩
 have po:=ab hp
 replace HZ:=ab ((aa HZ).up hb)
 have hg:=aM hb (some b)
 replace HG:=ab ((aa HG).trans hg)
 clear hb hp hg
 unfold Tk.val
 have NN:b<w1.heap.size:=by have:=(aa HG).size;omega
 have Ry:W.heap.size≤w1.heap.size:=by have:=(aa HG).size;omega
 have aZ:=ab (aF (w1) (.cells #[.int .i64 kt,.int .i64 pt,.string tt] 38))
 replace HZ:=ab ((aa HZ).up ((zE _ _).alloc (zD _) (.cells #[.int .i64 kt,.int .i64 pt,.string tt] 38)))
 replace HG:=ab ((aa HG).trans (aM ((zE _ _).alloc (zD _) (.cells #[.int .i64 kt,.int .i64 pt,.string tt] 38)) (some b)))
 have Cn:=seen (aa aZ)
 have B7:=frzn (aa aZ)
 go_wp2_with fail
 refine (eB (aa HZ) ⟨kt,pt,tt⟩).mono ?_
 rintro e w2 ⟨hg,hz,v2,rfl,B0,zS⟩
 clear Cn B7
 replace HZ:=ab hz
 replace aZ:=ab (aw hg (aa aZ) (by omega))
 replace HG:=ab ((aa HG).trans hg)
 clear hg hz
 obtain rfl:=B0
 clear zS
 have lV:=seen (aa aZ)
 have lR:=frzn (aa aZ)
 go_wp2_with fail
 refine (oL (aa HZ) j6).mono ?_
 rintro e w3 ⟨hg,hz,v3,rfl,nc,lu⟩
 clear lV lR
 replace HZ:=ab hz
 replace aZ:=ab (aw hg (aa aZ) (by omega))
 replace HG:=ab ((aa HG).trans hg)
 clear hg hz
 obtain rfl:=nc
 clear lu
 have HW:=ab (mV w3 [⟨#[112,117,98,108,105,99]⟩,⟨#[119,101,97,107]⟩] 9)
 replace aZ:=ab (bL (aa aZ) (.cells #[.string ⟨#[112,117,98,108,105,99]⟩,.string ⟨#[119,101,97,107]⟩] 9))
 replace HZ:=ab ((aa HZ).up ((zE _ _).alloc (zD _) (.cells #[.string ⟨#[112,117,98,108,105,99]⟩,.string ⟨#[119,101,97,107]⟩] 9)))
 replace HG:=ab ((aa HG).trans (aM ((zE _ _).alloc (zD _) (.cells #[.string ⟨#[112,117,98,108,105,99]⟩,.string ⟨#[119,101,97,107]⟩] 9)) (some b)))
 have oF:=seen (aa aZ)
 have ou:=frzn (aa aZ)
 go_wp2_with fail
 refine (hJ (aa HZ) (aa HW)).mono ?_
 rintro e w4 ⟨hg,hz,v4,rfl,p9,qE⟩
 clear oF ou
 replace HZ:=ab hz
 replace aZ:=ab (aw hg (aa aZ) (by omega))
 replace HG:=ab ((aa HG).trans hg)
 clear hg hz
 obtain rfl:=p9
 clear qE
 have xP:=ab (aa HZ).2
 clear HW
 have oE:=seen (aa aZ)
 have ot:=frzn (aa aZ)
 go_wp2_with fail
 refine (Bn (aa HZ)).mono ?_
 rintro e w5 ⟨hg,hz,v5,rfl,BZ,nA⟩
 clear oE ot
 replace HZ:=ab hz
 replace aZ:=ab (aw hg (aa aZ) (by omega))
 replace HG:=ab ((aa HG).trans hg)
 clear hg hz
 obtain ⟨x,⟨ku,pu,tu⟩,rfl⟩:=BZ
 have HV:Hid (∀a s,al (aT (al (aT (al (aT (al R (aN pt))) (cn j6))) (dp [⟨#[112,117,98,108,105,99]⟩,⟨#[119,101,97,107]⟩]))) cH=.ok (a,s)→a=(x,(⟨ku,pu,tu⟩:Tk))):=fun a s e=>Fs (nA a s e)
 clear nA
 unfold Tk.val
 have oD:=seen (aa aZ)
 have oq:=frzn (aa aZ)
 obtain ⟨k0,g0⟩:=aC (j:=0) (aa aZ) (.int .i64 ku)
 obtain ⟨k1,g1⟩:=aC (j:=1) k0 (.int .i64 pu)
 obtain ⟨k2,g2⟩:=aC (j:=2) k1 (.string tu)
 have gg:=((g0.trans g1).trans g2)
 replace aZ:Hid ((((w5.setCell ⟨w1.heap.size,0,none⟩ (.int .i64 ku)).setCell ⟨w1.heap.size,1,none⟩ (.int .i64 pu)).setCell ⟨w1.heap.size,2,none⟩ (.string tu)).heap[w1.heap.size]?=some (.cells #[.int .i64 ku,.int .i64 pu,.string tu] 38 (0,0))):=k2
 replace HZ:=ab ((aa HZ).gA gg (by omega))
 replace HG:=ab (cy (aa HG) gg (by omega))
 clear gg k0 g0 k1 g1 k2 g2
 have qs:=seen (aa aZ)
 have qc:=frzn (aa aZ)
 obtain ⟨RA,ZL⟩:∃RA,RA=(if 255<x.size then mI 2 pu (aT (al (aT (al (aT (al (aT (al R (aN pt))) (cn j6))) (dp [⟨#[112,117,98,108,105,99]⟩,⟨#[119,101,97,107]⟩]))) cH)) else aT (al (aT (al (aT (al (aT (al R (aN pt))) (cn j6))) (dp [⟨#[112,117,98,108,105,99]⟩,⟨#[119,101,97,107]⟩]))) cH)):=⟨_,rfl⟩
 have SU:=ab ZL
 clear ZL
 obtain ⟨q2,lF⟩:∃q,decide ((255:Int)<(x.size:Int))=q:=⟨_,rfl⟩
 have wT:=ab lF
 go_upto_if 22 with fail
 go_cut [] (fun wx=>Hid (World.grownBy (((w5.setCell ⟨w1.heap.size,0,none⟩ (.int .i64 ku)).setCell ⟨w1.heap.size,1,none⟩ (.int .i64 pu)).setCell ⟨w1.heap.size,2,none⟩ (.string tu)) wx (some b)∧Zr lo wx b RA))
 case first =>
  cases q2 with
  |true =>
   go_wp2_with fail
   refine (gX (aa HZ) 2 pu (by decide)).mono ?_
   rintro e w0 ⟨rfl,hg,hz⟩
   have HH:Hid (World.grownBy (((w5.setCell ⟨w1.heap.size,0,none⟩ (.int .i64 ku)).setCell ⟨w1.heap.size,1,none⟩ (.int .i64 pu)).setCell ⟨w1.heap.size,2,none⟩ (.string tu)) w0 (some b)∧Zr lo w0 b RA):=⟨hg,by
    have h1:=of_decide_eq_true (aa wT)
    rw[aa SU,if_pos (by omega)]
    exact hz⟩
   clear hg hz
   go_wp2
   go_meet
   exact HH
  |false =>
   have HH:Hid (World.grownBy (((w5.setCell ⟨w1.heap.size,0,none⟩ (.int .i64 ku)).setCell ⟨w1.heap.size,1,none⟩ (.int .i64 pu)).setCell ⟨w1.heap.size,2,none⟩ (.string tu)) (((w5.setCell ⟨w1.heap.size,0,none⟩ (.int .i64 ku)).setCell ⟨w1.heap.size,1,none⟩ (.int .i64 pu)).setCell ⟨w1.heap.size,2,none⟩ (.string tu)) (some b)∧Zr lo (((w5.setCell ⟨w1.heap.size,0,none⟩ (.int .i64 ku)).setCell ⟨w1.heap.size,1,none⟩ (.int .i64 pu)).setCell ⟨w1.heap.size,2,none⟩ (.string tu)) b RA):=⟨zI _ _,by
    have h1:=of_decide_eq_false (aa wT)
    rw[aa SU,if_neg (by omega)]
    exact aa HZ⟩
   go_wp2
   go_meet
   exact HH
 case rest =>
 obtain ⟨w6,fV⟩:∃x,x=wc:=⟨_,rfl⟩
 subst fV
 clear oD oq qs qc
 obtain ⟨hg,hz⟩:=aa hcut
 replace HZ:=ab hz
 replace aZ:=ab (aw hg (aa aZ) (by omega))
 replace HG:=ab ((aa HG).trans hg)
 clear hg hz hcut
 clear lF wT
 have Eu:=seen (aa aZ)
 have Ed:=frzn (aa aZ)
 obtain ⟨q,hq⟩:∃q,(x.toList==[])=q:=⟨_,rfl⟩
 have HA:Hid (∀(r:PX),r=aT (al (aT (al (aT (al (aT (al R (aN pt))) (cn j6))) (dp [⟨#[112,117,98,108,105,99]⟩,⟨#[119,101,97,107]⟩]))) cH)→(if q=true then mI 50 pu RA else RA)=lU (dR x) pu r):=by
  intro r hr
  rw[aa SU,←hr]
  unfold lU dR
  rw[hq]
  by_cases h1:255<x.size
  ·rw[if_pos h1,if_pos h1,if_neg (c:=(2:Int)=0) (by decide)]
   all_goals (cases q<;>cases r<;>rfl)
  ·rw[if_neg h1,if_neg h1]
   all_goals (cases q<;>rfl)
 go_upto_if 28 with fail
 go_cut [] (fun wx=>Hid (World.grownBy (w6) wx (some b)∧Zr lo wx b (lU (dR x) pu (aT (al (aT (al (aT (al (aT (al R (aN pt))) (cn j6))) (dp [⟨#[112,117,98,108,105,99]⟩,⟨#[119,101,97,107]⟩]))) cH)))))
 case first =>
  cases q with
  |true =>
   go_wp2_with fail
   refine (gX (aa HZ) 50 pu (by decide)).mono ?_
   rintro e w0 ⟨rfl,hg,hz⟩
   have HH:Hid (World.grownBy (w6) w0 (some b)∧Zr lo w0 b (lU (dR x) pu (aT (al (aT (al (aT (al (aT (al R (aN pt))) (cn j6))) (dp [⟨#[112,117,98,108,105,99]⟩,⟨#[119,101,97,107]⟩]))) cH)))):=⟨hg,by rw[←aa HA _ rfl];exact hz⟩
   clear hg hz
   go_wp2
   go_meet
   exact HH
  |false =>
   have HH:Hid (World.grownBy (w6) (w6) (some b)∧Zr lo (w6) b (lU (dR x) pu (aT (al (aT (al (aT (al (aT (al R (aN pt))) (cn j6))) (dp [⟨#[112,117,98,108,105,99]⟩,⟨#[119,101,97,107]⟩]))) cH)))):=⟨zI _ _,by rw[←aa HA _ rfl];exact aa HZ⟩
   go_wp2
   go_meet
   exact HH
 case rest =>
 obtain ⟨w7,fV⟩:∃x,x=wc:=⟨_,rfl⟩
 subst fV
 clear Eu Ed
 obtain ⟨hg,hz⟩:=aa hcut
 replace HZ:=ab hz
 replace aZ:=ab (aw hg (aa aZ) (by omega))
 replace HG:=ab ((aa HG).trans hg)
 clear hg hz hcut
 clear hq HA SU
 have Et:=seen (aa aZ)
 have Ec:=frzn (aa aZ)
 go_wp2_with fail
 refine (eZ (aa HZ) ⟨#[59]⟩).mono ?_
 rintro e w8 ⟨hg,hz,v8,rfl,Vg,Xc⟩
 clear Et Ec
 replace HZ:=ab hz
 replace aZ:=ab (aw hg (aa aZ) (by omega))
 replace HG:=ab ((aa HG).trans hg)
 clear hg hz
 obtain rfl:=Vg
 clear Xc
 obtain ⟨p2,p3⟩:=YH (sp:=pu) (aa lZ) (aa po) (aa HK) rfl (aa xP) (aa HV)
 replace HZ:=aa HZ
 rw[p2] at HZ
 replace HZ:=ab HZ
 have P3:=ab p3
 clear p2 p3 HV xP lZ po HK
 go_wp2
 go_ret
 exact ⟨aa HG,aa HZ,_,rfl,⟨x,rfl⟩,fun a s e=>by rw[aa P3 a s e];rfl⟩
theorem Iw {α β:Type} (r:Except (Int×Int) (α×ax)) (G:ax→Except (Int×Int) (β×ax)):al (kI (aT r)) G=bQ r (fun _ s=>G s.nx):=by
 cases r with
 |ok p=>rfl
 |error y=>rfl
theorem Pv (s:ax):lk false s=s:=rfl
theorem YD {R:PX}{kd pt:Int}{tt k t:ByteArray} (hg:lp R) (hp:EN R ⟨kd,pt,tt⟩)
  (lu:∀a s,al (aT (al (kI (aT (al R (aN pt)))) (au ⟨#[60]⟩))) (fun s=>ba true (lk false s))=.ok (a,s)→Value.string k=.string a)
  (nA:∀a s,al (aT (al (aT (al (aT (al (kI (aT (al R (aN pt)))) (au ⟨#[60]⟩))) (fun s=>ba true (lk false s)))) (au ⟨#[44]⟩))) (fun s=>ba true (lk false s))=.ok (a,s)→Value.string t=.string a) :
  al (aT (al (aT (al (aT (al (aT (al (aT (al (kI (aT (al R (aN pt)))) (au ⟨#[60]⟩))) (fun s=>ba true (lk false s)))) (au ⟨#[44]⟩))) (fun s=>ba true (lk false s)))) (au ⟨#[62]⟩))) (AQ ⟨4,k,t,⟨#[]⟩,0,0⟩)=al R lr:=by
 match R,hg,hp,lu,nA with
 |.error y,_,_,_,_=>rfl
 |.ok s,hg,hp,lu,nA =>
  have ht:pt=s.here.spot:=hp.2.1
  subst ht
  simp only[Iw,fh,jE,seq_assoc,Pv] at lu nA ⊢
  simp only[al] at lu nA ⊢
  unfold lr
  rw[gQ hg]
  cases h1:aN s.here.spot s with
  |error y=>rfl
  |ok p1 =>
   rw[h1] at lu nA
   simp only[aK] at lu nA ⊢
   cases h2:au ⟨#[60]⟩ p1.2.nx with
   |error y=>rfl
   |ok p2 =>
    rw[h2] at lu nA
    simp only[aK] at lu nA ⊢
    cases h3:ba true p2.2 with
    |error y=>rfl
    |ok p3 =>
     rw[h3] at nA
     have e3:k=p3.1:=by simpa using lu p3.1 p3.2 h3
     simp only[aK] at nA ⊢
     cases h4:au ⟨#[44]⟩ p3.2 with
     |error y=>rfl
     |ok p4 =>
      rw[h4] at nA
      simp only[aK] at nA ⊢
      cases h5:ba true p4.2 with
      |error y=>rfl
      |ok p5 =>
       have e5:t=p5.1:=by simpa using nA p5.1 p5.2 h5
       simp only[aK]
       cases h6:au ⟨#[62]⟩ p5.2 with
       |error y=>rfl
       |ok p6 =>
        simp only[aK]
        rw[e3,e5]
theorem JA {W:World}{lo b:Nat}{R:PX} (h:Zr lo W b R) (hk:∀s,R=.ok s→s.here.kind=1):Calls Tryz.prog 110 #[.pointer (some ⟨b,0,none⟩)] W (ZQ lo b W Fd.val U5 (al R lr)):=by
 have cC:=h.low
 have lZ:Hid (lp R):=h.2
 have HK:=ab hk
 have HZ:=ab h
 have HG:Hid (W.grownBy W (some b)):=zI _ _
 clear h hk
 have Va:b<W.heap.size:=by have:=(aa HG).size;omega
 have rl:W.heap.size≤W.heap.size:=by have:=(aa HG).size;omega
 have aW:=ab (aF (W) (.cells #[.int .i64 0,.string ⟨#[]⟩,.string ⟨#[]⟩,.string ⟨#[]⟩,.int .i64 0,.int .i64 0] 45))
 replace HZ:=ab ((aa HZ).up ((zE _ _).alloc (zD _) (.cells #[.int .i64 0,.string ⟨#[]⟩,.string ⟨#[]⟩,.string ⟨#[]⟩,.int .i64 0,.int .i64 0] 45)))
 replace HG:=ab ((aa HG).trans (aM ((zE _ _).alloc (zD _) (.cells #[.int .i64 0,.string ⟨#[]⟩,.string ⟨#[]⟩,.string ⟨#[]⟩,.int .i64 0,.int .i64 0] 45)) (some b)))
 go_enter Tryz.func110,Tryz.ntmps110
 have qv:=seen (aa aW)
 have qi:=frzn (aa aW)
 go_wp2_with fail
 refine (gm (aa HZ)).mono ?_
 rintro e w1 ⟨⟨kt,pt,tt⟩,rfl,hb,hp⟩
 clear qv qi
 have po:=ab hp
 replace HZ:=ab ((aa HZ).up hb)
 have hg:=aM hb (some b)
 replace aW:=ab (aw hg (aa aW) (by omega))
 replace HG:=ab ((aa HG).trans hg)
 clear hb hp hg
 unfold Tk.val
 have NN:b<w1.heap.size:=by have:=(aa HG).size;omega
 have Ry:W.heap.size≤w1.heap.size:=by have:=(aa HG).size;omega
 have D4:W.heap.size<w1.heap.size:=by have h:=(zA (aa aW)).1;exact h
 replace aW:=ab (bL (aa aW) (.cells #[.int .i64 kt,.int .i64 pt,.string tt] 38))
 have aZ:=ab (aF (w1) (.cells #[.int .i64 kt,.int .i64 pt,.string tt] 38))
 replace HZ:=ab ((aa HZ).up ((zE _ _).alloc (zD _) (.cells #[.int .i64 kt,.int .i64 pt,.string tt] 38)))
 replace HG:=ab ((aa HG).trans (aM ((zE _ _).alloc (zD _) (.cells #[.int .i64 kt,.int .i64 pt,.string tt] 38)) (some b)))
 have qu:=seen (aa aW)
 have qh:=frzn (aa aW)
 have lV:=seen (aa aZ)
 have lR:=frzn (aa aZ)
 go_wp2_with fail
 refine (eB (aa HZ) ⟨kt,pt,tt⟩).mono ?_
 rintro e w2 ⟨hg,hz,v2,rfl,B0,zS⟩
 clear qu qh lV lR
 replace HZ:=ab hz
 replace aW:=ab (aw hg (aa aW) (by omega))
 replace aZ:=ab (aw hg (aa aZ) (by omega))
 replace HG:=ab ((aa HG).trans hg)
 clear hg hz
 obtain rfl:=B0
 clear zS
 obtain ⟨i2,ci,fi,bF,hi⟩:=(aa HZ).next (fun s' e=>by
   match R,aa lZ,aa HK,e with
   |.error y,_,_,e=>cases e
   |.ok s,rU,hk,e =>
    cases hb:aN pt s with
    |error y=>rw[show al (.ok s) (aN pt)=aN pt s from rfl,hb] at e;cases e
    |ok p =>
     rw[show al (.ok s) (aN pt)=aN pt s from rfl,hb] at e
     cases e
     have e2:p.2.ts=s.ts:=by unfold aN at hb;split at hb;cases hb;cases hb;rfl
     rw[e2]
     exact bP rU.en (by rw[hk s rfl];decide))
 obtain ⟨g1,z1⟩:=bF (wrap64 (i2+1)) (fun s e=>eN (hi s e))
 have rI:=seen (aa aW)
 have ry:=frzn (aa aW)
 have oF:=seen (aa aZ)
 have ou:=frzn (aa aZ)
 replace aW:=ab (aw g1 (aa aW) (by omega))
 replace aZ:=ab (aw g1 (aa aZ) (by omega))
 replace HG:=ab ((aa HG).trans g1)
 replace HZ:=ab z1
 clear g1 z1 bF hi
 have oH:=seen (aa aW)
 have ox:=frzn (aa aW)
 have oE:=seen (aa aZ)
 have ot:=frzn (aa aZ)
 go_wp2_with fail
 refine (eZ (aa HZ) ⟨#[60]⟩).mono ?_
 rintro e w3 ⟨hg,hz,v3,rfl,nc,lu⟩
 clear rI ry oF ou ci fi oH ox oE ot
 replace HZ:=ab hz
 replace aW:=ab (aw hg (aa aW) (by omega))
 replace aZ:=ab (aw hg (aa aZ) (by omega))
 replace HG:=ab ((aa HG).trans hg)
 clear hg hz
 obtain rfl:=nc
 clear lu
 have oG:=seen (aa aW)
 have ow:=frzn (aa aW)
 have oD:=seen (aa aZ)
 have oq:=frzn (aa aZ)
 go_wp2_with fail
 refine (l7 (aa HZ) true false).mono ?_
 rintro e w4 ⟨hg,hz,v4,rfl,p9,qE⟩
 clear oG ow oD oq
 replace HZ:=ab hz
 replace aW:=ab (aw hg (aa aW) (by omega))
 replace aZ:=ab (aw hg (aa aZ) (by omega))
 replace HG:=ab ((aa HG).trans hg)
 clear hg hz
 obtain ⟨k,rfl⟩:=p9
 have T9:=ab qE
 clear qE
 have U':b<w4.heap.size:=by have:=(aa HG).size;omega
 have NP:W.heap.size≤w4.heap.size:=by have:=(aa HG).size;omega
 have KB:W.heap.size<w4.heap.size:=by have h:=(zA (aa aW)).1;exact h
 have Gb:w1.heap.size<w4.heap.size:=by have h:=(zA (aa aZ)).1;exact h
 replace aW:=ab (bL (aa aW) (.cells #[.int .i64 4,.string k,.string ⟨#[]⟩,.string ⟨#[]⟩,.int .i64 0,.int .i64 0] 45))
 replace aZ:=ab (bL (aa aZ) (.cells #[.int .i64 4,.string k,.string ⟨#[]⟩,.string ⟨#[]⟩,.int .i64 0,.int .i64 0] 45))
 have bH:=ab (aF (w4) (.cells #[.int .i64 4,.string k,.string ⟨#[]⟩,.string ⟨#[]⟩,.int .i64 0,.int .i64 0] 45))
 replace HZ:=ab ((aa HZ).up ((zE _ _).alloc (zD _) (.cells #[.int .i64 4,.string k,.string ⟨#[]⟩,.string ⟨#[]⟩,.int .i64 0,.int .i64 0] 45)))
 replace HG:=ab ((aa HG).trans (aM ((zE _ _).alloc (zD _) (.cells #[.int .i64 4,.string k,.string ⟨#[]⟩,.string ⟨#[]⟩,.int .i64 0,.int .i64 0] 45)) (some b)))
 have qt:=seen (aa aW)
 have qd:=frzn (aa aW)
 have qs:=seen (aa aZ)
 have qc:=frzn (aa aZ)
 have sU:=seen (aa bH)
 have sQ:=frzn (aa bH)
 go_wp2_with fail
 refine (eZ (aa HZ) ⟨#[44]⟩).mono ?_
 rintro e w5 ⟨hg,hz,v5,rfl,BZ,nA⟩
 clear qt qd qs qc sU sQ
 replace HZ:=ab hz
 replace aW:=ab (aw hg (aa aW) (by omega))
 replace aZ:=ab (aw hg (aa aZ) (by omega))
 replace bH:=ab (aw hg (aa bH) (by omega))
 replace HG:=ab ((aa HG).trans hg)
 clear hg hz
 obtain rfl:=BZ
 clear nA
 have GF:=seen (aa aW)
 have Gq:=frzn (aa aW)
 have Eu:=seen (aa aZ)
 have Ed:=frzn (aa aZ)
 have GB:=seen (aa bH)
 have Gk:=frzn (aa bH)
 go_wp2_with fail
 refine (l7 (aa HZ) true false).mono ?_
 rintro e w6 ⟨hg,hz,v6,rfl,Vi,hv6⟩
 clear GF Gq Eu Ed GB Gk
 replace HZ:=ab hz
 replace aW:=ab (aw hg (aa aW) (by omega))
 replace aZ:=ab (aw hg (aa aZ) (by omega))
 replace bH:=ab (aw hg (aa bH) (by omega))
 replace HG:=ab ((aa HG).trans hg)
 clear hg hz
 obtain ⟨t,rfl⟩:=Vi
 have T0:=ab hv6
 clear hv6
 have K7:=seen (aa aW)
 have KT:=frzn (aa aW)
 have Et:=seen (aa aZ)
 have Ec:=frzn (aa aZ)
 have K5:=seen (aa bH)
 have KN:=frzn (aa bH)
 obtain ⟨k1,g1⟩:=aC (j:=2) (aa bH) (.string t)
 replace aW:=ab (aw g1 (aa aW) (by omega))
 replace aZ:=ab (aw g1 (aa aZ) (by omega))
 replace bH:Hid ((w6.setCell ⟨w4.heap.size,2,none⟩ (.string t)).heap[w4.heap.size]?=some (.cells #[.int .i64 4,.string k,.string t,.string ⟨#[]⟩,.int .i64 0,.int .i64 0] 45 (0,0))):=k1
 replace HZ:=ab ((aa HZ).gA g1 (by omega))
 replace HG:=ab (cy (aa HG) g1 (by omega))
 clear k1 g1
 have Sw:=seen (aa aW)
 have Sb:=frzn (aa aW)
 have Su:=seen (aa aZ)
 have R9:=frzn (aa aZ)
 have Ss:=seen (aa bH)
 have R7:=frzn (aa bH)
 go_wp2_with fail
 refine (eZ (aa HZ) ⟨#[62]⟩).mono ?_
 rintro e w7 ⟨hg,hz,v7,rfl,Vh,NR⟩
 clear K7 KT Et Ec K5 KN Sw Sb Su R9 Ss R7
 replace HZ:=ab hz
 replace aW:=ab (aw hg (aa aW) (by omega))
 replace aZ:=ab (aw hg (aa aZ) (by omega))
 replace bH:=ab (aw hg (aa bH) (by omega))
 replace HG:=ab ((aa HG).trans hg)
 clear hg hz
 obtain rfl:=Vh
 clear NR
 have Jf:=seen (aa aW)
 have I1:=frzn (aa aW)
 have Jd:=seen (aa aZ)
 have IX:=frzn (aa aZ)
 have Ja:=seen (aa bH)
 have IV:=frzn (aa bH)
 go_wp2_with fail
 refine (Bo (aa HZ) ⟨4,k,t,⟨#[]⟩,0,0⟩).mono ?_
 rintro e w8 ⟨hg,hz,v8,rfl,Vg,Xc⟩
 clear Jf I1 Jd IX Ja IV
 replace HZ:=ab hz
 replace aW:=ab (aw hg (aa aW) (by omega))
 replace aZ:=ab (aw hg (aa aZ) (by omega))
 replace bH:=ab (aw hg (aa bH) (by omega))
 replace HG:=ab ((aa HG).trans hg)
 clear hg hz
 obtain ⟨⟨c7,k7,t7,n7,m7,o7⟩,rfl⟩:=Vg
 have Wq:=ab Xc
 clear Xc
 unfold Fd.val Fd.arr
 simp only
 have e7:=YD (aa lZ) (aa po) (aa T9) (aa T0)
 have NR:=aa Wq
 replace HZ:=aa HZ
 rw[e7] at NR HZ
 replace HZ:=ab HZ
 replace Wq:=ab NR
 clear e7 NR T9 T0 lZ po HK
 have Je:=seen (aa aW)
 have I0:=frzn (aa aW)
 have Jc:=seen (aa aZ)
 have IW:=frzn (aa aZ)
 have I':=seen (aa bH)
 have IU:=frzn (aa bH)
 obtain ⟨t1,t2,t3⟩:=yh (aa HG) (aa HZ) cC.2 rl (aa aW) (.int .i64 c7) (.string k7) (.string t7) (.string n7) (.int .i64 m7) (.int .i64 o7)
 have T1:=ab t1
 have T2:=ab t2
 have T3:=ab t3
 clear t1 t2 t3
 go_wp2
 refine bodyPost_ret (results_cell_row rfl _ _ (W.heap.size) 45 #[.int .i64 c7,.string k7,.string t7,.string n7,.int .i64 m7,.int .i64 o7] (0,0) _ rfl (aa T1) Tryz.underlying45 rfl ko) rfl ?_
 exact ⟨aa T2,aa T3,_,rfl,⟨⟨c7,k7,t7,n7,m7,o7⟩,rfl⟩,fun a s e=>aa Wq a s e⟩
end Go.Proofs.YtjophoclfccmcaaGreatDoor

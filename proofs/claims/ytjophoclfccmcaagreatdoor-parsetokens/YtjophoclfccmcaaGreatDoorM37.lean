import Derived.Test.YtjophoclfccmcaaGreatDoorM36
set_option maxHeartbeats 2000000
set_option maxRecDepth 100000
namespace Go.Proofs.YtjophoclfccmcaaGreatDoor
open Go.RowKit
attribute [local go_sem ↓] Go.wp_at_zero Go.wp_at_succ
theorem fe {α β:Type} (r:Except (Int×Int) (α×ay)) (G:ay→Except (Int×Int) (β×ay)):al (aT r) G=bO r (fun _ s=>G s):=by
 cases r with
 |ok p=>rfl
 |error y=>rfl
theorem jD {α β:Type} (R:PX) (F:ay→Except (Int×Int) (α×ay)) (G:α→ay→Except (Int×Int) (β×ay)):bO (al R F) G=al R (fun s=>bO (F s) G):=by
 cases R with
 |ok p=>rfl
 |error y=>rfl
theorem seq_assoc {α β γ:Type} (r:Except (Int×Int) (α×ay)) (F:α→ay→Except (Int×Int) (β×ay)) (G:β→ay→Except (Int×Int) (γ×ay)):bO (bO r F) G=bO r (fun a s=>bO (F a s) G):=by
 cases r with
 |ok p=>rfl
 |error y=>rfl
theorem Fh {x:ByteArray}{t:Tk}{a:ByteArray×Tk} (h:(Value.tuple #[.string x,.agg #[.int .i64 t.kind,.int .i64 t.spot,.string t.text]])=txV a):a=(x,t):=by
 obtain ⟨m,⟨k,q,y⟩⟩:=a
 obtain ⟨k',q',y'⟩:=t
 simp only[txV,Tk.val,Value.tuple.injEq,Array.mk.injEq,List.cons.injEq,Value.int.injEq,Value.agg.injEq,Value.string.injEq] at h
 obtain ⟨rfl,⟨⟨_,rfl⟩,⟨_,rfl⟩,rfl,_⟩,_⟩:=h
 rfl
theorem xx (c sp:Int) (y:Int×Int):lX c sp (.error y)=.error y:=by unfold lX;split<;>rfl
theorem Ny {R:PX}{ff:ByteArray→Int}{x:ByteArray}{t:Tk}{sp:Int} (hg:lq R) (hs:t.spot=sp) (hv:∀a s,al R cG=.ok (a,s)→a=(x,t)):lX (ff x) sp (aT (al R cG))=aT (al R (bB ff))∧∀a s,al R (bB ff)=.ok (a,s)→a=x:=by
 match R,hg,hv with
 |.error y,_,_=>exact ⟨xx _ _ _,fun _ _ e=>(by cases e)⟩
 |.ok s,hg,hv =>
  have hm:=FN hg.bg ff
  show lX (ff x) sp (aT (cG s))=aT (bB ff s)∧∀a s',bB ff s=.ok (a,s')→a=x
  rw[hm]
  cases ht:cG s with
  |error y=>exact ⟨xx _ _ _,fun _ _ e=>(by cases e)⟩
  |ok p =>
   obtain ⟨a,s1⟩:=p
   obtain rfl:=hv a s1 ht
   rw[aL]
   unfold lX
   by_cases hc:ff x=0
   ·rw[if_pos hc,if_pos hc]
    exact ⟨rfl,fun _ _ e=>(by cases e;rfl)⟩
   ·rw[if_neg hc,if_neg hc]
    exact ⟨by rw[←hs];rfl,fun _ _ e=>(by cases e)⟩
theorem mY (w:World) (l:List ByteArray) (T:TypeId) (h:l.length≤100:=by decide):tc (w.alloc (.cells (dR l).toArray T)) (.slice (some ⟨w.heap.size,0,none⟩) l.length l.length) l.length (dR l):=by
 refine ⟨some ⟨w.heap.size,0,none⟩,l.length,rfl,by unfold maxLen;omega,fun _=>⟨w.heap.size,rfl,by rw[zJ];omega,fun j x hj=>?_⟩⟩
 rw[World.cell?_alloc_at _ _ _ _ rfl,List.getElem?_toArray]
 exact hj
def Da:ByteArray:=⟨#[115,121,110,116,97,120]⟩
noncomputable def Bk (s:ay):Except (Int×Int) (Unit×ay):=bO (cl Da s) (fun _ s1=>bO (au ⟨#[61]⟩ s1) (fun _ s2=>bO (bB dF s2) (fun _ s3=>au ⟨#[59]⟩ s3)))
theorem Ju {W:World}{lo b:Nat}{R:PX} (h:Zr lo W b R):Calls Tryz.prog 34 #[.pointer (some ⟨b,0,none⟩)] W (ZQ lo b W ub Vf (al R Bk)):=by
 have cB:=h.low
 have HZ:=ab h
 have HG:Hid (W.grownBy W (some b)):=zI _ _
 clear h
 go_enter Tryz.func34,Tryz.ntmps34
 go_wp2_with fail
 refine (oQ (aa HZ) Da).mono ?_
 rintro e w1 ⟨hg,hz,v1,rfl,F2,tL⟩
 replace HZ:=ab hz
 replace HG:=ab ((aa HG).trans hg)
 clear hg hz
 obtain rfl:=F2
 clear tL
 go_wp2_with fail
 refine (eW (aa HZ) ⟨#[61]⟩).mono ?_
 rintro e w2 ⟨hg,hz,v2,rfl,BT,zz⟩
 replace HZ:=ab hz
 replace HG:=ab ((aa HG).trans hg)
 clear hg hz
 obtain rfl:=BT
 clear zz
 have S4:=ab (aa HZ).2
 go_wp2_with fail
 refine (Bd (aa HZ)).mono ?_
 rintro e w3 ⟨hg,hz,v3,rfl,ni,lv⟩
 replace HZ:=ab hz
 replace HG:=ab ((aa HG).trans hg)
 clear hg hz
 obtain ⟨x,⟨kt,pt,tt⟩,rfl⟩:=ni
 have HV:Hid (∀a s,al (aT (al (aT (al R (cl Da))) (au ⟨#[61]⟩))) cG=.ok (a,s)→a=(x,(⟨kt,pt,tt⟩:Tk))):=fun a s e=>Fh (lv a s e)
 clear lv
 unfold Tk.val
 have NZ:b<w3.heap.size:=by have:=(aa HG).size;omega
 have RN:W.heap.size≤w3.heap.size:=by have:=(aa HG).size;omega
 have aZ:=ab (aH (w3) (.cells #[.int .i64 kt,.int .i64 pt,.string tt] 38))
 replace HZ:=ab ((aa HZ).up ((zE _ _).alloc (zD _) (.cells #[.int .i64 kt,.int .i64 pt,.string tt] 38)))
 replace HG:=ab ((aa HG).trans (aO ((zE _ _).alloc (zD _) (.cells #[.int .i64 kt,.int .i64 pt,.string tt] 38)) (some b)))
 have Ch:=seen (aa aZ)
 have B2:=aS (aa aZ)
 obtain ⟨q,hq⟩:∃q,(x.toList==[112,114,111,116,111,51])=q:=⟨_,rfl⟩
 have HQ:=ab hq
 go_upto_if 14 with fail
 go_cut [] (fun wx=>Hid (World.grownBy (w3.alloc (.cells #[.int .i64 kt,.int .i64 pt,.string tt] 38)) wx (some b)∧Zr lo wx b (lX (dF x) pt (aT (al (aT (al (aT (al R (cl Da))) (au ⟨#[61]⟩))) cG)))))
 case first =>
  cases q with
  |true =>
   have HH:Hid (World.grownBy (w3.alloc (.cells #[.int .i64 kt,.int .i64 pt,.string tt] 38)) (w3.alloc (.cells #[.int .i64 kt,.int .i64 pt,.string tt] 38)) (some b)∧Zr lo (w3.alloc (.cells #[.int .i64 kt,.int .i64 pt,.string tt] 38)) b (lX (dF x) pt (aT (al (aT (al (aT (al R (cl Da))) (au ⟨#[61]⟩))) cG)))):=⟨zI _ _,by unfold lX dF;rw[if_pos (aa HQ),if_pos rfl];exact aa HZ⟩
   go_wp2
   go_meet
   exact HH
  |false =>
   go_wp2_with fail
   refine (gV (aa HZ) 50 pt (by decide)).mono ?_
   rintro e w0 ⟨rfl,hg,hz⟩
   have HH:Hid (World.grownBy (w3.alloc (.cells #[.int .i64 kt,.int .i64 pt,.string tt] 38)) w0 (some b)∧Zr lo w0 b (lX (dF x) pt (aT (al (aT (al (aT (al R (cl Da))) (au ⟨#[61]⟩))) cG)))):=⟨hg,by
    have dV:¬(x.toList==[112,114,111,116,111,51])=true:=fun q=>by rw[aa HQ] at q;cases q
    unfold lX dF
    rw[if_neg dV,if_neg (by decide)]
    exact hz⟩
   clear hg hz
   go_wp2
   go_meet
   exact HH
 case rest =>
 obtain ⟨w4,fP⟩:∃x,x=wc:=⟨_,rfl⟩
 subst fP
 clear Ch B2
 obtain ⟨hg,hz⟩:=aa hcut
 replace HZ:=ab hz
 replace aZ:=ab (ax hg (aa aZ) (by omega))
 replace HG:=ab ((aa HG).trans hg)
 clear hg hz hcut
 clear hq HQ
 have lY:=seen (aa aZ)
 have lU:=aS (aa aZ)
 go_wp2_with fail
 refine (eW (aa HZ) ⟨#[59]⟩).mono ?_
 rintro e w5 ⟨hg,hz,v5,rfl,BS,nD⟩
 clear lY lU
 replace HZ:=ab hz
 replace aZ:=ab (ax hg (aa aZ) (by omega))
 replace HG:=ab ((aa HG).trans hg)
 clear hg hz
 obtain rfl:=BS
 clear nD
 have e1:=(Ny (ff:=dF) (sp:=pt) (aa S4) rfl (aa HV)).1
 replace HZ:=aa HZ
 rw[e1] at HZ
 replace HZ:=ab HZ
 clear e1 HV S4
 go_wp2
 go_end0
 refine ⟨aa HG,?_,_,rfl,rfl,fun _ _ _=>rfl⟩
 have hz:=aa HZ
 simp only[fe,jD,seq_assoc] at hz
 exact hz
theorem Iq (t:Tk) (l:List ByteArray):(t.kind=1∧CF t.text l=true)↔(l.any fun x=>aJ t 1 x)=true:=by
 unfold CF aJ
 rw[List.any_eq_true,List.any_eq_true]
 constructor
 ·rintro ⟨h1,y,hy,h2⟩
  exact ⟨y,hy,by rw[Bool.and_eq_true];exact ⟨by simpa using h1,by rw[BEq.comm];exact h2⟩⟩
 ·rintro ⟨y,hy,h2⟩
  rw[Bool.and_eq_true] at h2
  exact ⟨by simpa using h2.1,y,hy,by rw[BEq.comm];exact h2.2⟩
theorem Fx (l:List ByteArray) (s:ay):dj l s=if (l.any fun x=>aJ s.here 1 x)=true then .error (52,s.here.spot) else .ok ((),s):=by
 unfold dj
 by_cases h:(l.any fun x=>aJ s.here 1 x)=true
 ·rw[if_pos h,if_pos ((Iq _ _).2 h)]
 ·rw[if_neg h,if_neg (fun q=>h ((Iq _ _).1 q))]
def j6:ByteArray:=⟨#[105,109,112,111,114,116]⟩
theorem ns {x:ByteArray}{s:ay} (h:aJ s.here 1 x=true):bO (aP s.here.spot s) (fun _ s1=>cl x s1)=bO (aP s.here.spot s) (fun _ s1=>.ok ((),s1.nx)):=by
 cases hb:aP s.here.spot s with
 |error y=>rfl
 |ok p =>
  rw[aL,aL]
  have e:p.2.here=s.here:=by unfold aP at hb;split at hb;cases hb;cases hb;rfl
  unfold cl
  rw[e,if_pos h]
theorem YY {R:PX}{k pt:Int}{tt x:ByteArray}{t:Tk}{sp:Int} (hg:lq R) (hp:EF R ⟨k,pt,tt⟩) (hk:∀s,R=.ok s→aJ s.here 1 j6=true) (hs:t.spot=sp)
  (cN:lq (aT (al (aT (al (aT (al R (aP pt))) (cl j6))) (dj [⟨#[112,117,98,108,105,99]⟩,⟨#[119,101,97,107]⟩]))))
  (hv:∀a s,al (aT (al (aT (al (aT (al R (aP pt))) (cl j6))) (dj [⟨#[112,117,98,108,105,99]⟩,⟨#[119,101,97,107]⟩]))) cG=.ok (a,s)→a=(x,t)) :
  aT (al (lX (dO x) sp (aT (al (aT (al (aT (al (aT (al R (aP pt))) (cl j6))) (dj [⟨#[112,117,98,108,105,99]⟩,⟨#[119,101,97,107]⟩]))) cG))) (au ⟨#[59]⟩))=aT (al R bq)∧∀a s,al R bq=.ok (a,s)→a=x:=by
 obtain ⟨e1,e2⟩:=Ny (ff:=dO) cN hs hv
 rw[e1]
 match R,hg,hp,hk,e2 with
 |.error y,_,_,_,_=>exact ⟨rfl,fun _ _ e=>(by cases e)⟩
 |.ok s,hg,hp,hk,e2 =>
  have ht:pt=s.here.spot:=hp.2.1
  subst ht
  have hb:=ns (hk s rfl)
  simp only[fe,jD,seq_assoc] at e2 ⊢
  rw[show al (.ok s) bq=bq s from rfl]
  rw[show ∀F:ay→Except (Int×Int) (ByteArray×ay),al (.ok s) F=F s from fun _=>rfl] at e2
  rw[show ∀F:ay→Except (Int×Int) (Unit×ay),al (.ok s) F=F s from fun _=>rfl]
  unfold bq
  rw[gO hg,←hb]
  cases mO:aP s.here.spot s with
  |error y=>exact ⟨rfl,fun _ _ e=>(by cases e)⟩
  |ok p =>
   rw[mO] at e2
   rw[aL] at e2 ⊢
   rw[aL]
   cases hw:cl j6 p.2 with
   |error y=>exact ⟨rfl,fun _ _ e=>(by cases e)⟩
   |ok p2 =>
    rw[hw] at e2
    rw[aL] at e2 ⊢
    simp only
    rw[Fx] at e2 ⊢
    have ho:([⟨#[112,117,98,108,105,99]⟩,⟨#[119,101,97,107]⟩]:List ByteArray).any (fun x=>aJ p2.2.here 1 x)=(aJ p2.2.here 1 ⟨#[112,117,98,108,105,99]⟩ ||aJ p2.2.here 1 ⟨#[119,101,97,107]⟩):=by simp
    rw[ho] at e2 ⊢
    by_cases hq:(aJ p2.2.here 1 ⟨#[112,117,98,108,105,99]⟩ ||aJ p2.2.here 1 ⟨#[119,101,97,107]⟩)=true
    ·rw[if_pos hq,if_pos hq]
     exact ⟨rfl,fun _ _ e=>(by cases e)⟩
    ·rw[if_neg hq] at e2
     rw[if_neg hq,if_neg hq]
     rw[aL] at e2 ⊢
     cases hm:bB dO p2.2 with
     |error y=>exact ⟨rfl,fun _ _ e=>(by cases e)⟩
     |ok q =>
      rw[aL]
      have e3:=e2 q.1 q.2 hm
      obtain ⟨a,s3⟩:=q
      simp only at e3 ⊢
      cases hn:au ⟨#[59]⟩ s3 with
      |error y=>exact ⟨rfl,fun _ _ e=>(by cases e)⟩
      |ok r=>exact ⟨rfl,fun _ _ e=>(by cases e;exact e3)⟩
theorem CQ {W:World}{lo b:Nat}{R:PX} (h:Zr lo W b R) (hk:∀s,R=.ok s→aJ s.here 1 j6=true):Calls Tryz.prog 39 #[.pointer (some ⟨b,0,none⟩)] W (ZQ lo b W Value.string Tr (al R bq)):=by
 have cB:=h.low
 have l9:Hid (lq R):=h.2
 have HK:=ab hk
 have HZ:=ab h
 have HG:Hid (W.grownBy W (some b)):=zI _ _
 clear h hk
 go_enter Tryz.func39,Tryz.ntmps39
 go_wp2_with fail
 refine (gf (aa HZ)).mono ?_
 rintro e w1 ⟨⟨kt,pt,tt⟩,rfl,hb,hp⟩
 have pB:=ab hp
 replace HZ:=ab ((aa HZ).up hb)
 have hg:=aO hb (some b)
 replace HG:=ab ((aa HG).trans hg)
 clear hb hp hg
 unfold Tk.val
 have NZ:b<w1.heap.size:=by have:=(aa HG).size;omega
 have RN:W.heap.size≤w1.heap.size:=by have:=(aa HG).size;omega
 have aZ:=ab (aH (w1) (.cells #[.int .i64 kt,.int .i64 pt,.string tt] 38))
 replace HZ:=ab ((aa HZ).up ((zE _ _).alloc (zD _) (.cells #[.int .i64 kt,.int .i64 pt,.string tt] 38)))
 replace HG:=ab ((aa HG).trans (aO ((zE _ _).alloc (zD _) (.cells #[.int .i64 kt,.int .i64 pt,.string tt] 38)) (some b)))
 have Ch:=seen (aa aZ)
 have B2:=aS (aa aZ)
 go_wp2_with fail
 refine (eu (aa HZ) ⟨kt,pt,tt⟩).mono ?_
 rintro e w2 ⟨hg,hz,v2,rfl,BT,zz⟩
 clear Ch B2
 replace HZ:=ab hz
 replace aZ:=ab (ax hg (aa aZ) (by omega))
 replace HG:=ab ((aa HG).trans hg)
 clear hg hz
 obtain rfl:=BT
 clear zz
 have lY:=seen (aa aZ)
 have lU:=aS (aa aZ)
 go_wp2_with fail
 refine (oQ (aa HZ) j6).mono ?_
 rintro e w3 ⟨hg,hz,v3,rfl,ni,lv⟩
 clear lY lU
 replace HZ:=ab hz
 replace aZ:=ab (ax hg (aa aZ) (by omega))
 replace HG:=ab ((aa HG).trans hg)
 clear hg hz
 obtain rfl:=ni
 clear lv
 have HW:=ab (mY w3 [⟨#[112,117,98,108,105,99]⟩,⟨#[119,101,97,107]⟩] 9)
 replace aZ:=ab (bL (aa aZ) (.cells #[.string ⟨#[112,117,98,108,105,99]⟩,.string ⟨#[119,101,97,107]⟩] 9))
 replace HZ:=ab ((aa HZ).up ((zE _ _).alloc (zD _) (.cells #[.string ⟨#[112,117,98,108,105,99]⟩,.string ⟨#[119,101,97,107]⟩] 9)))
 replace HG:=ab ((aa HG).trans (aO ((zE _ _).alloc (zD _) (.cells #[.string ⟨#[112,117,98,108,105,99]⟩,.string ⟨#[119,101,97,107]⟩] 9)) (some b)))
 have oK:=seen (aa aZ)
 have oA:=aS (aa aZ)
 go_wp2_with fail
 refine (gY (aa HZ) (aa HW)).mono ?_
 rintro e w4 ⟨hg,hz,v4,rfl,qi,qI⟩
 clear oK oA
 replace HZ:=ab hz
 replace aZ:=ab (ax hg (aa aZ) (by omega))
 replace HG:=ab ((aa HG).trans hg)
 clear hg hz
 obtain rfl:=qi
 clear qI
 have xM:=ab (aa HZ).2
 clear HW
 have oJ:=seen (aa aZ)
 have oy:=aS (aa aZ)
 go_wp2_with fail
 refine (Bd (aa HZ)).mono ?_
 rintro e w5 ⟨hg,hz,v5,rfl,BS,nD⟩
 clear oJ oy
 replace HZ:=ab hz
 replace aZ:=ab (ax hg (aa aZ) (by omega))
 replace HG:=ab ((aa HG).trans hg)
 clear hg hz
 obtain ⟨x,⟨ku,pu,tu⟩,rfl⟩:=BS
 have HV:Hid (∀a s,al (aT (al (aT (al (aT (al R (aP pt))) (cl j6))) (dj [⟨#[112,117,98,108,105,99]⟩,⟨#[119,101,97,107]⟩]))) cG=.ok (a,s)→a=(x,(⟨ku,pu,tu⟩:Tk))):=fun a s e=>Fh (nD a s e)
 clear nD
 unfold Tk.val
 have oI:=seen (aa aZ)
 have ox:=aS (aa aZ)
 obtain ⟨k0,g0⟩:=aC (j:=0) (aa aZ) (.int .i64 ku)
 obtain ⟨k1,g1⟩:=aC (j:=1) k0 (.int .i64 pu)
 obtain ⟨k2,g2⟩:=aC (j:=2) k1 (.string tu)
 have gg:=((g0.trans g1).trans g2)
 replace aZ:Hid ((((w5.setCell ⟨w1.heap.size,0,none⟩ (.int .i64 ku)).setCell ⟨w1.heap.size,1,none⟩ (.int .i64 pu)).setCell ⟨w1.heap.size,2,none⟩ (.string tu)).heap[w1.heap.size]?=some (.cells #[.int .i64 ku,.int .i64 pu,.string tu] 38 (0,0))):=k2
 replace HZ:=ab ((aa HZ).gu gg (by omega))
 replace HG:=ab (cx (aa HG) gg (by omega))
 clear gg k0 g0 k1 g1 k2 g2
 have qz:=seen (aa aZ)
 have qp:=aS (aa aZ)
 obtain ⟨RA,TK⟩:∃RA,RA=(if 255<x.size then mL 2 pu (aT (al (aT (al (aT (al (aT (al R (aP pt))) (cl j6))) (dj [⟨#[112,117,98,108,105,99]⟩,⟨#[119,101,97,107]⟩]))) cG)) else aT (al (aT (al (aT (al (aT (al R (aP pt))) (cl j6))) (dj [⟨#[112,117,98,108,105,99]⟩,⟨#[119,101,97,107]⟩]))) cG)):=⟨_,rfl⟩
 have GY:=ab TK
 clear TK
 obtain ⟨q2,lG⟩:∃q,decide ((255:Int)<(x.size:Int))=q:=⟨_,rfl⟩
 have wX:=ab lG
 go_upto_if 22 with fail
 go_cut [] (fun wx=>Hid (World.grownBy (((w5.setCell ⟨w1.heap.size,0,none⟩ (.int .i64 ku)).setCell ⟨w1.heap.size,1,none⟩ (.int .i64 pu)).setCell ⟨w1.heap.size,2,none⟩ (.string tu)) wx (some b)∧Zr lo wx b RA))
 case first =>
  cases q2 with
  |true =>
   go_wp2_with fail
   refine (gV (aa HZ) 2 pu (by decide)).mono ?_
   rintro e w0 ⟨rfl,hg,hz⟩
   have HH:Hid (World.grownBy (((w5.setCell ⟨w1.heap.size,0,none⟩ (.int .i64 ku)).setCell ⟨w1.heap.size,1,none⟩ (.int .i64 pu)).setCell ⟨w1.heap.size,2,none⟩ (.string tu)) w0 (some b)∧Zr lo w0 b RA):=⟨hg,by
    have h1:=of_decide_eq_true (aa wX)
    rw[aa GY,if_pos (by omega)]
    exact hz⟩
   clear hg hz
   go_wp2
   go_meet
   exact HH
  |false =>
   have HH:Hid (World.grownBy (((w5.setCell ⟨w1.heap.size,0,none⟩ (.int .i64 ku)).setCell ⟨w1.heap.size,1,none⟩ (.int .i64 pu)).setCell ⟨w1.heap.size,2,none⟩ (.string tu)) (((w5.setCell ⟨w1.heap.size,0,none⟩ (.int .i64 ku)).setCell ⟨w1.heap.size,1,none⟩ (.int .i64 pu)).setCell ⟨w1.heap.size,2,none⟩ (.string tu)) (some b)∧Zr lo (((w5.setCell ⟨w1.heap.size,0,none⟩ (.int .i64 ku)).setCell ⟨w1.heap.size,1,none⟩ (.int .i64 pu)).setCell ⟨w1.heap.size,2,none⟩ (.string tu)) b RA):=⟨zI _ _,by
    have h1:=of_decide_eq_false (aa wX)
    rw[aa GY,if_neg (by omega)]
    exact aa HZ⟩
   go_wp2
   go_meet
   exact HH
 case rest =>
 obtain ⟨w6,fP⟩:∃x,x=wc:=⟨_,rfl⟩
 subst fP
 clear oI ox qz qp
 obtain ⟨hg,hz⟩:=aa hcut
 replace HZ:=ab hz
 replace aZ:=ab (ax hg (aa aZ) (by omega))
 replace HG:=ab ((aa HG).trans hg)
 clear hg hz hcut
 clear lG wX
 have Ei:=seen (aa aZ)
 have D7:=aS (aa aZ)
 obtain ⟨q,hq⟩:∃q,(x.toList==[])=q:=⟨_,rfl⟩
 have HA:Hid (∀(r:PX),r=aT (al (aT (al (aT (al (aT (al R (aP pt))) (cl j6))) (dj [⟨#[112,117,98,108,105,99]⟩,⟨#[119,101,97,107]⟩]))) cG)→(if q=true then mL 50 pu RA else RA)=lX (dO x) pu r):=by
  intro r hr
  rw[aa GY,←hr]
  unfold lX dO
  rw[hq]
  by_cases h1:255<x.size
  ·rw[if_pos h1,if_pos h1,if_neg (c:=(2:Int)=0) (by decide)]
   all_goals (cases q<;>cases r<;>rfl)
  ·rw[if_neg h1,if_neg h1]
   all_goals (cases q<;>rfl)
 go_upto_if 28 with fail
 go_cut [] (fun wx=>Hid (World.grownBy (w6) wx (some b)∧Zr lo wx b (lX (dO x) pu (aT (al (aT (al (aT (al (aT (al R (aP pt))) (cl j6))) (dj [⟨#[112,117,98,108,105,99]⟩,⟨#[119,101,97,107]⟩]))) cG)))))
 case first =>
  cases q with
  |true =>
   go_wp2_with fail
   refine (gV (aa HZ) 50 pu (by decide)).mono ?_
   rintro e w0 ⟨rfl,hg,hz⟩
   have HH:Hid (World.grownBy (w6) w0 (some b)∧Zr lo w0 b (lX (dO x) pu (aT (al (aT (al (aT (al (aT (al R (aP pt))) (cl j6))) (dj [⟨#[112,117,98,108,105,99]⟩,⟨#[119,101,97,107]⟩]))) cG)))):=⟨hg,by rw[←aa HA _ rfl];exact hz⟩
   clear hg hz
   go_wp2
   go_meet
   exact HH
  |false =>
   have HH:Hid (World.grownBy (w6) (w6) (some b)∧Zr lo (w6) b (lX (dO x) pu (aT (al (aT (al (aT (al (aT (al R (aP pt))) (cl j6))) (dj [⟨#[112,117,98,108,105,99]⟩,⟨#[119,101,97,107]⟩]))) cG)))):=⟨zI _ _,by rw[←aa HA _ rfl];exact aa HZ⟩
   go_wp2
   go_meet
   exact HH
 case rest =>
 obtain ⟨w7,fP⟩:∃x,x=wc:=⟨_,rfl⟩
 subst fP
 clear Ei D7
 obtain ⟨hg,hz⟩:=aa hcut
 replace HZ:=ab hz
 replace aZ:=ab (ax hg (aa aZ) (by omega))
 replace HG:=ab ((aa HG).trans hg)
 clear hg hz hcut
 clear hq HA GY
 have Eh:=seen (aa aZ)
 have D6:=aS (aa aZ)
 go_wp2_with fail
 refine (eW (aa HZ) ⟨#[59]⟩).mono ?_
 rintro e w8 ⟨hg,hz,v8,rfl,Vu,Xu⟩
 clear Eh D6
 replace HZ:=ab hz
 replace aZ:=ab (ax hg (aa aZ) (by omega))
 replace HG:=ab ((aa HG).trans hg)
 clear hg hz
 obtain rfl:=Vu
 clear Xu
 obtain ⟨p2,p3⟩:=YY (sp:=pu) (aa l9) (aa pB) (aa HK) rfl (aa xM) (aa HV)
 replace HZ:=aa HZ
 rw[p2] at HZ
 replace HZ:=ab HZ
 have P3:=ab p3
 clear p2 p3 HV xM l9 pB HK
 go_wp2
 go_ret
 exact ⟨aa HG,aa HZ,_,rfl,⟨x,rfl⟩,fun a s e=>by rw[aa P3 a s e];rfl⟩
theorem Iu {α β:Type} (r:Except (Int×Int) (α×ay)) (G:ay→Except (Int×Int) (β×ay)):al (kK (aT r)) G=bO r (fun _ s=>G s.nx):=by
 cases r with
 |ok p=>rfl
 |error y=>rfl
theorem PM (s:ay):ll false s=s:=rfl
theorem YT {R:PX}{kd pt:Int}{tt k t:ByteArray} (hg:lq R) (hp:EF R ⟨kd,pt,tt⟩)
  (lv:∀a s,al (aT (al (kK (aT (al R (aP pt)))) (au ⟨#[60]⟩))) (fun s=>ba true (ll false s))=.ok (a,s)→Value.string k=.string a)
  (nD:∀a s,al (aT (al (aT (al (aT (al (kK (aT (al R (aP pt)))) (au ⟨#[60]⟩))) (fun s=>ba true (ll false s)))) (au ⟨#[44]⟩))) (fun s=>ba true (ll false s))=.ok (a,s)→Value.string t=.string a) :
  al (aT (al (aT (al (aT (al (aT (al (aT (al (kK (aT (al R (aP pt)))) (au ⟨#[60]⟩))) (fun s=>ba true (ll false s)))) (au ⟨#[44]⟩))) (fun s=>ba true (ll false s)))) (au ⟨#[62]⟩))) (AL ⟨4,k,t,⟨#[]⟩,0,0⟩)=al R lu:=by
 match R,hg,hp,lv,nD with
 |.error y,_,_,_,_=>rfl
 |.ok s,hg,hp,lv,nD =>
  have ht:pt=s.here.spot:=hp.2.1
  subst ht
  simp only[Iu,fe,jD,seq_assoc,PM] at lv nD ⊢
  simp only[al] at lv nD ⊢
  unfold lu
  rw[gO hg]
  cases h1:aP s.here.spot s with
  |error y=>rfl
  |ok p1 =>
   rw[h1] at lv nD
   simp only[aL] at lv nD ⊢
   cases h2:au ⟨#[60]⟩ p1.2.nx with
   |error y=>rfl
   |ok p2 =>
    rw[h2] at lv nD
    simp only[aL] at lv nD ⊢
    cases h3:ba true p2.2 with
    |error y=>rfl
    |ok p3 =>
     rw[h3] at nD
     have e3:k=p3.1:=by simpa using lv p3.1 p3.2 h3
     simp only[aL] at nD ⊢
     cases h4:au ⟨#[44]⟩ p3.2 with
     |error y=>rfl
     |ok p4 =>
      rw[h4] at nD
      simp only[aL] at nD ⊢
      cases h5:ba true p4.2 with
      |error y=>rfl
      |ok p5 =>
       have e5:t=p5.1:=by simpa using nD p5.1 p5.2 h5
       simp only[aL]
       cases h6:au ⟨#[62]⟩ p5.2 with
       |error y=>rfl
       |ok p6 =>
        simp only[aL]
        rw[e3,e5]
theorem Jx {W:World}{lo b:Nat}{R:PX} (h:Zr lo W b R) (hk:∀s,R=.ok s→s.here.kind=1):Calls Tryz.prog 110 #[.pointer (some ⟨b,0,none⟩)] W (ZQ lo b W Fd.val Vg (al R lu)):=by
 have cB:=h.low
 have l9:Hid (lq R):=h.2
 have HK:=ab hk
 have HZ:=ab h
 have HG:Hid (W.grownBy W (some b)):=zI _ _
 clear h hk
 have Vm:b<W.heap.size:=by have:=(aa HG).size;omega
 have AQ:W.heap.size≤W.heap.size:=by have:=(aa HG).size;omega
 have aV:=ab (aH (W) (.cells #[.int .i64 0,.string ⟨#[]⟩,.string ⟨#[]⟩,.string ⟨#[]⟩,.int .i64 0,.int .i64 0] 45))
 replace HZ:=ab ((aa HZ).up ((zE _ _).alloc (zD _) (.cells #[.int .i64 0,.string ⟨#[]⟩,.string ⟨#[]⟩,.string ⟨#[]⟩,.int .i64 0,.int .i64 0] 45)))
 replace HG:=ab ((aa HG).trans (aO ((zE _ _).alloc (zD _) (.cells #[.int .i64 0,.string ⟨#[]⟩,.string ⟨#[]⟩,.string ⟨#[]⟩,.int .i64 0,.int .i64 0] 45)) (some b)))
 go_enter Tryz.func110,Tryz.ntmps110
 have qC:=seen (aa aV)
 have qu:=aS (aa aV)
 go_wp2_with fail
 refine (gf (aa HZ)).mono ?_
 rintro e w1 ⟨⟨kt,pt,tt⟩,rfl,hb,hp⟩
 clear qC qu
 have pB:=ab hp
 replace HZ:=ab ((aa HZ).up hb)
 have hg:=aO hb (some b)
 replace aV:=ab (ax hg (aa aV) (by omega))
 replace HG:=ab ((aa HG).trans hg)
 clear hb hp hg
 unfold Tk.val
 have NZ:b<w1.heap.size:=by have:=(aa HG).size;omega
 have RN:W.heap.size≤w1.heap.size:=by have:=(aa HG).size;omega
 have DV:W.heap.size<w1.heap.size:=by have h:=(zA (aa aV)).1;exact h
 replace aV:=ab (bL (aa aV) (.cells #[.int .i64 kt,.int .i64 pt,.string tt] 38))
 have aZ:=ab (aH (w1) (.cells #[.int .i64 kt,.int .i64 pt,.string tt] 38))
 replace HZ:=ab ((aa HZ).up ((zE _ _).alloc (zD _) (.cells #[.int .i64 kt,.int .i64 pt,.string tt] 38)))
 replace HG:=ab ((aa HG).trans (aO ((zE _ _).alloc (zD _) (.cells #[.int .i64 kt,.int .i64 pt,.string tt] 38)) (some b)))
 have qB:=seen (aa aV)
 have qt:=aS (aa aV)
 have lY:=seen (aa aZ)
 have lU:=aS (aa aZ)
 go_wp2_with fail
 refine (eu (aa HZ) ⟨kt,pt,tt⟩).mono ?_
 rintro e w2 ⟨hg,hz,v2,rfl,BT,zz⟩
 clear qB qt lY lU
 replace HZ:=ab hz
 replace aV:=ab (ax hg (aa aV) (by omega))
 replace aZ:=ab (ax hg (aa aZ) (by omega))
 replace HG:=ab ((aa HG).trans hg)
 clear hg hz
 obtain rfl:=BT
 clear zz
 obtain ⟨i2,ci,fi,bD,hi⟩:=(aa HZ).next (fun s' e=>by
   match R,aa l9,aa HK,e with
   |.error y,_,_,e=>cases e
   |.ok s,sb,hk,e =>
    cases hb:aP pt s with
    |error y=>rw[show al (.ok s) (aP pt)=aP pt s from rfl,hb] at e;cases e
    |ok p =>
     rw[show al (.ok s) (aP pt)=aP pt s from rfl,hb] at e
     cases e
     have e2:p.2.ts=s.ts:=by unfold aP at hb;split at hb;cases hb;cases hb;rfl
     rw[e2]
     exact bN sb.en (by rw[hk s rfl];decide))
 obtain ⟨g1,z1⟩:=bD (wrap64 (i2+1)) (fun s e=>eJ (hi s e))
 have rQ:=seen (aa aV)
 have rG:=aS (aa aV)
 have oK:=seen (aa aZ)
 have oA:=aS (aa aZ)
 replace aV:=ab (ax g1 (aa aV) (by omega))
 replace aZ:=ab (ax g1 (aa aZ) (by omega))
 replace HG:=ab ((aa HG).trans g1)
 replace HZ:=ab z1
 clear g1 z1 bD hi
 have oM:=seen (aa aV)
 have oD:=aS (aa aV)
 have oJ:=seen (aa aZ)
 have oy:=aS (aa aZ)
 go_wp2_with fail
 refine (eW (aa HZ) ⟨#[60]⟩).mono ?_
 rintro e w3 ⟨hg,hz,v3,rfl,ni,lv⟩
 clear rQ rG oK oA ci fi oM oD oJ oy
 replace HZ:=ab hz
 replace aV:=ab (ax hg (aa aV) (by omega))
 replace aZ:=ab (ax hg (aa aZ) (by omega))
 replace HG:=ab ((aa HG).trans hg)
 clear hg hz
 obtain rfl:=ni
 clear lv
 have oL:=seen (aa aV)
 have oC:=aS (aa aV)
 have oI:=seen (aa aZ)
 have ox:=aS (aa aZ)
 go_wp2_with fail
 refine (me (aa HZ) true false).mono ?_
 rintro e w4 ⟨hg,hz,v4,rfl,qi,qI⟩
 clear oL oC oI ox
 replace HZ:=ab hz
 replace aV:=ab (ax hg (aa aV) (by omega))
 replace aZ:=ab (ax hg (aa aZ) (by omega))
 replace HG:=ab ((aa HG).trans hg)
 clear hg hz
 obtain ⟨k,rfl⟩:=qi
 have Uj:=ab qI
 clear qI
 have Vl:b<w4.heap.size:=by have:=(aa HG).size;omega
 have N3:W.heap.size≤w4.heap.size:=by have:=(aa HG).size;omega
 have Kz:W.heap.size<w4.heap.size:=by have h:=(zA (aa aV)).1;exact h
 have F7:w1.heap.size<w4.heap.size:=by have h:=(zA (aa aZ)).1;exact h
 replace aV:=ab (bL (aa aV) (.cells #[.int .i64 4,.string k,.string ⟨#[]⟩,.string ⟨#[]⟩,.int .i64 0,.int .i64 0] 45))
 replace aZ:=ab (bL (aa aZ) (.cells #[.int .i64 4,.string k,.string ⟨#[]⟩,.string ⟨#[]⟩,.int .i64 0,.int .i64 0] 45))
 have bF:=ab (aH (w4) (.cells #[.int .i64 4,.string k,.string ⟨#[]⟩,.string ⟨#[]⟩,.int .i64 0,.int .i64 0] 45))
 replace HZ:=ab ((aa HZ).up ((zE _ _).alloc (zD _) (.cells #[.int .i64 4,.string k,.string ⟨#[]⟩,.string ⟨#[]⟩,.int .i64 0,.int .i64 0] 45)))
 replace HG:=ab ((aa HG).trans (aO ((zE _ _).alloc (zD _) (.cells #[.int .i64 4,.string k,.string ⟨#[]⟩,.string ⟨#[]⟩,.int .i64 0,.int .i64 0] 45)) (some b)))
 have qA:=seen (aa aV)
 have qs:=aS (aa aV)
 have qz:=seen (aa aZ)
 have qp:=aS (aa aZ)
 have sY:=seen (aa bF)
 have sU:=aS (aa bF)
 go_wp2_with fail
 refine (eW (aa HZ) ⟨#[44]⟩).mono ?_
 rintro e w5 ⟨hg,hz,v5,rfl,BS,nD⟩
 clear qA qs qz qp sY sU
 replace HZ:=ab hz
 replace aV:=ab (ax hg (aa aV) (by omega))
 replace aZ:=ab (ax hg (aa aZ) (by omega))
 replace bF:=ab (ax hg (aa bF) (by omega))
 replace HG:=ab ((aa HG).trans hg)
 clear hg hz
 obtain rfl:=BS
 clear nD
 have Gy:=seen (aa aV)
 have Gk:=aS (aa aV)
 have Ei:=seen (aa aZ)
 have D7:=aS (aa aZ)
 have Gv:=seen (aa bF)
 have Gf:=aS (aa bF)
 go_wp2_with fail
 refine (me (aa HZ) true false).mono ?_
 rintro e w6 ⟨hg,hz,v6,rfl,Vw,hv6⟩
 clear Gy Gk Ei D7 Gv Gf
 replace HZ:=ab hz
 replace aV:=ab (ax hg (aa aV) (by omega))
 replace aZ:=ab (ax hg (aa aZ) (by omega))
 replace bF:=ab (ax hg (aa bF) (by omega))
 replace HG:=ab ((aa HG).trans hg)
 clear hg hz
 obtain ⟨t,rfl⟩:=Vw
 have Ui:=ab hv6
 clear hv6
 have K6:=seen (aa aV)
 have KS:=aS (aa aV)
 have Eh:=seen (aa aZ)
 have D6:=aS (aa aZ)
 have K4:=seen (aa bF)
 have KM:=aS (aa bF)
 obtain ⟨k1,g1⟩:=aC (j:=2) (aa bF) (.string t)
 replace aV:=ab (ax g1 (aa aV) (by omega))
 replace aZ:=ab (ax g1 (aa aZ) (by omega))
 replace bF:Hid ((w6.setCell ⟨w4.heap.size,2,none⟩ (.string t)).heap[w4.heap.size]?=some (.cells #[.int .i64 4,.string k,.string t,.string ⟨#[]⟩,.int .i64 0,.int .i64 0] 45 (0,0))):=k1
 replace HZ:=ab ((aa HZ).gu g1 (by omega))
 replace HG:=ab (cx (aa HG) g1 (by omega))
 clear k1 g1
 have SD:=seen (aa aV)
 have Si:=aS (aa aV)
 have SC:=seen (aa aZ)
 have Sg:=aS (aa aZ)
 have SB:=seen (aa bF)
 have Sf:=aS (aa bF)
 go_wp2_with fail
 refine (eW (aa HZ) ⟨#[62]⟩).mono ?_
 rintro e w7 ⟨hg,hz,v7,rfl,Vv,N6⟩
 clear K6 KS Eh D6 K4 KM SD Si SC Sg SB Sf
 replace HZ:=ab hz
 replace aV:=ab (ax hg (aa aV) (by omega))
 replace aZ:=ab (ax hg (aa aZ) (by omega))
 replace bF:=ab (ax hg (aa bF) (by omega))
 replace HG:=ab ((aa HG).trans hg)
 clear hg hz
 obtain rfl:=Vv
 clear N6
 have Jb:=seen (aa aV)
 have IX:=aS (aa aV)
 have I':=seen (aa aZ)
 have IT:=aS (aa aZ)
 have I7:=seen (aa bF)
 have IQ:=aS (aa bF)
 go_wp2_with fail
 refine (Be (aa HZ) ⟨4,k,t,⟨#[]⟩,0,0⟩).mono ?_
 rintro e w8 ⟨hg,hz,v8,rfl,Vu,Xu⟩
 clear Jb IX I' IT I7 IQ
 replace HZ:=ab hz
 replace aV:=ab (ax hg (aa aV) (by omega))
 replace aZ:=ab (ax hg (aa aZ) (by omega))
 replace bF:=ab (ax hg (aa bF) (by omega))
 replace HG:=ab ((aa HG).trans hg)
 clear hg hz
 obtain ⟨⟨c7,k7,t7,n7,m7,o7⟩,rfl⟩:=Vu
 have WN:=ab Xu
 clear Xu
 unfold Fd.val Fd.arr
 simp only
 have e7:=YT (aa l9) (aa pB) (aa Uj) (aa Ui)
 have N6:=aa WN
 replace HZ:=aa HZ
 rw[e7] at N6 HZ
 replace HZ:=ab HZ
 replace WN:=ab N6
 clear e7 N6 Uj Ui l9 pB HK
 have Ja:=seen (aa aV)
 have IW:=aS (aa aV)
 have I9:=seen (aa aZ)
 have IS:=aS (aa aZ)
 have I6:=seen (aa bF)
 have IN:=aS (aa bF)
 obtain ⟨t1,t2,t3⟩:=x7 (aa HG) (aa HZ) cB.2 AQ (aa aV) (.int .i64 c7) (.string k7) (.string t7) (.string n7) (.int .i64 m7) (.int .i64 o7)
 have T1:=ab t1
 have T2:=ab t2
 have T3:=ab t3
 clear t1 t2 t3
 go_wp2
 refine bodyPost_ret (results_cell_row rfl _ _ (W.heap.size) 45 #[.int .i64 c7,.string k7,.string t7,.string n7,.int .i64 m7,.int .i64 o7] (0,0) _ rfl (aa T1) Tryz.underlying45 rfl kp) rfl ?_
 exact ⟨aa T2,aa T3,_,rfl,⟨⟨c7,k7,t7,n7,m7,o7⟩,rfl⟩,fun a s e=>aa WN a s e⟩
end Go.Proofs.YtjophoclfccmcaaGreatDoor

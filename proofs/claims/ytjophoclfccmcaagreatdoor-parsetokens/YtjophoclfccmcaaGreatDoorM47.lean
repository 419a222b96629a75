import Derived.Test.YtjophoclfccmcaaGreatDoorPfY
set_option maxHeartbeats 4000000
set_option maxRecDepth 100000
namespace Go.Proofs.YtjophoclfccmcaaGreatDoor
open Go.RowKit
noncomputable def nz (mf:ay→Except (Int×Int) (Ms×ay)) (x:Mp) (s:ay):Except (Int×Int) (Ms×ay):=bO (oh (bU (mz mf) ER) x s) tJ
def lF (s:ay) (pt:Int):PX:=if s.op=32 then .error (53,pt) else .ok s
def QH:PX→PX
 |.ok s=>.ok s.CE
 |.error y=>.error y
def I4:PX→PX
 |.ok s=>.ok s.Eg
 |.error y=>.error y
theorem Zr.QH {lo b:Nat}{W:World}{R:PX} (h:Zr lo W b R):Zr lo W b (QH R):=by
 match R,h with
 |.error y,h=>exact h
 |.ok s,⟨h1,h2⟩=>exact ⟨h1,⟨h2.bg,h2.en,h2.sm,h2.dc,h2.len⟩⟩
theorem Zr.I4 {lo b:Nat}{W:World}{R:PX} (h:Zr lo W b R):Zr lo W b (I4 R):=by
 match R,h with
 |.error y,h=>exact h
 |.ok s,⟨h1,h2⟩=>exact ⟨h1,⟨h2.bg,h2.en,h2.sm,h2.dc,h2.len⟩⟩
theorem Gd.CE {s:ay} (h:Gd s):Gd s.CE:=⟨h.bg,h.en,h.sm,h.dc,h.len⟩
theorem Nd {mf:ay→Except (Int×Int) (Ms×ay)} (IC:∀s m s',mf s=.ok (m,s')→Gt s s') (x:Mp) (s:ay) (x':Mp) (s':ay) (h:bU (mz mf) ER x s=.ok (x',s')):Gt s s'∧(s.en.kind=5→0<s.ts.length):=gX (yw _ IC) (fun _ _ _ _ h=>jP h) h
theorem Rn {s:ay} (hg:Gd s) (x:ByteArray):aT (au x s.CE)=QH (aT (au x s)):=by
 rw[gP hg.bg,gP hg.CE.bg]
 show aT (if aJ s.here 4 x=true then .ok ((),s.CE.nx) else .error (bR s))=_
 by_cases h:aJ s.here 4 x=true
 ·rw[if_pos h,if_pos h];rfl
 ·rw[if_neg h,if_neg h];rfl
theorem Ru {mf:ay→Except (Int×Int) (Ms×ay)} (IC:∀s m s',mf s=.ok (m,s')→Gt s s') {nm:ByteArray}{s:ay} (hg:Gd s):lR mf nm s=al (QH (aT (au ⟨#[123]⟩ s))) (nz mf ⟨nm,[],[],[],[],[],[]⟩):=by
 unfold lR
 rw[GQ (Nd IC) hg.CE,←Rn hg,fe]
 cases h:au ⟨#[123]⟩ s.CE with
 |error y=>rfl
 |ok p =>
  rw[aL,aL]
  unfold nz
  cases oh (bU (mz mf) ER) ⟨nm,[],[],[],[],[],[]⟩ p.2 with
  |error y=>rfl
  |ok q=>rfl
theorem Na {n:Nat}{s0:ay}{k pt:Int}{tt nm:ByteArray} (hg:Gd s0) (hp:EF (.ok s0) ⟨k,pt,tt⟩) (hk:aJ s0.here 1 hU=true)
  (cN:lq (aT (al (aT (al (aT (al (lF s0 pt) (aP pt))) (cl hU))) aR)))
  (hv:∀a s,al (aT (al (aT (al (lF s0 pt) (aP pt))) (cl hU))) aR=.ok (a,s)→Value.string nm=.string a) :
  bj (n+1) s0=al (QH (aT (al (aT (al (aT (al (aT (al (lF s0 pt) (aP pt))) (cl hU))) aR)) (au ⟨#[123]⟩)))) (nz (bj n) ⟨nm,[],[],[],[],[],[]⟩):=by
 have ht:pt=s0.here.spot:=hp.2.1
 subst ht
 have hb:=ns hk
 rw[bj]
 by_cases LI:s0.op=32
 ·rw[if_pos LI]
  unfold lF
  rw[if_pos LI]
  rfl
 ·rw[if_neg LI]
  have hn:lF s0 s0.here.spot=.ok s0:=by unfold lF;rw[if_neg LI]
  rw[hn] at cN hv ⊢
  rw[gO hg,←hb]
  rw[show al (.ok s0) (aP s0.here.spot)=aP s0.here.spot s0 from rfl] at cN hv ⊢
  cases h1:aP s0.here.spot s0 with
  |error y=>rfl
  |ok p1 =>
   rw[h1] at cN hv
   rw[show al (aT (.ok p1)) (cl hU)=cl hU p1.2 from rfl] at cN hv ⊢
   rw[aL]
   cases h2:cl hU p1.2 with
   |error y=>rfl
   |ok p2 =>
    rw[h2] at cN hv
    rw[show al (aT (.ok p2)) aR=aR p2.2 from rfl] at cN hv ⊢
    obtain ⟨a2,s2⟩:=p2
    dsimp only at cN hv ⊢
    cases h3:aR s2 with
    |error y=>rfl
    |ok p3 =>
     obtain ⟨a3,s3⟩:=p3
     have e3:nm=a3:=by simpa using hv a3 s3 h3
     rw[h3] at cN
     have sb:Gd s3:=cN
     subst e3
     exact Ru (kX n) sb
theorem Rq {s0 s4:ay}{pt:Int} (hg:Gd s0) (h:QH (aT (al (aT (al (aT (al (aT (al (lF s0 pt) (aP pt))) (cl hU))) aR)) (au ⟨#[123]⟩)))=.ok s4):s4.ts.length<s0.ts.length∧s4.op=s0.op+1∧s0.op≠32:=by
 unfold lF at h
 by_cases LI:s0.op=32
 ·rw[if_pos LI] at h;cases h
 rw[if_neg LI] at h
 rw[show al (.ok s0) (aP pt)=aP pt s0 from rfl] at h
 cases h1:aP pt s0 with
 |error y=>rw[h1] at h;cases h
 |ok p1 =>
  have e1:p1.2.ts=s0.ts∧p1.2.en=s0.en∧p1.2.op=s0.op:=by unfold aP at h1;split at h1;cases h1;cases h1;exact ⟨rfl,rfl,rfl⟩
  rw[h1,show al (aT (.ok p1)) (cl hU)=cl hU p1.2 from rfl] at h
  cases h2:cl hU p1.2 with
  |error y=>rw[h2] at h;cases h
  |ok p2 =>
   have e2:p2.2.ts=p1.2.ts.tail∧p2.2.en=p1.2.en∧p2.2.op=p1.2.op:=by unfold cl at h2;split at h2;cases h2;exact ⟨rfl,rfl,rfl⟩;cases h2
   rw[h2,show al (aT (.ok p2)) aR=aR p2.2 from rfl] at h
   cases h3:aR p2.2 with
   |error y=>rw[h3] at h;cases h
   |ok p3 =>
    obtain ⟨a3,s3⟩:=p3
    have e3:=dP (gm h3) (kT h3 (by rw[e2.2.1,e1.2.1];exact hg.en))
    have o3:=(gm h3).gi.op
    rw[h3,show al (aT (.ok (a3,s3))) (au ⟨#[123]⟩)=au ⟨#[123]⟩ s3 from rfl] at h
    cases h4:au ⟨#[123]⟩ s3 with
    |error y=>rw[h4] at h;cases h
    |ok p4 =>
     obtain ⟨a4,s5⟩:=p4
     have e4:=(bw h4).len
     have o4:=(bw h4).op
     rw[h4] at h
     obtain rfl:s5.CE=s4:=by simpa[aT,QH] using h
     have e5:p2.2.ts.length≤s0.ts.length:=by rw[e2.1,e1.1,List.length_tail];omega
     refine ⟨?_,?_,LI⟩
     ·show s5.ts.length<_
      omega
     ·show s5.op+1=_
      rw[o4,o3,e2.2.2,e1.2.2]
theorem Rp {mf:ay→Except (Int×Int) (Ms×ay)} (IC:∀s m s',mf s=.ok (m,s')→Gt s s') {x:Mp}{s:ay}{s':ay} (hg:Gd s) (h:aT (al (.ok s) (fun s=>bO (dj mB s) (fun _ s1=>nI mf x s1)))=.ok s'):s'.ts.length<s.ts.length∧s'.op=s.op:=by
 rw[show al (.ok s) (fun s=>bO (dj mB s) (fun _ s1=>nI mf x s1))=bU (mz mf) ER x s from (Bm hg).symm] at h
 cases hr:bU (mz mf) ER x s with
 |error y=>rw[hr] at h;cases h
 |ok p =>
  obtain ⟨a,s1⟩:=p
  rw[hr] at h
  obtain rfl:s1=s':=by simpa[aT] using h
  obtain ⟨h1,h2⟩:=Nd IC _ _ _ _ hr
  exact ⟨dP h1 (h2 hg.en),h1.gi.op⟩
theorem Nc {mf:ay→Except (Int×Int) (Ms×ay)} (IC:∀s m s',mf s=.ok (m,s')→Gt s s') {x x':Mp}{s:ay} (hg:Gd s) (hq:¬aJ s.here 4 ⟨#[125]⟩=true)
  (hv:∀a s',al (.ok s) (fun s=>bO (dj mB s) (fun _ s1=>nI mf x s1))=.ok (a,s')→a=x'):nz mf x s=al (aT (al (.ok s) (fun s=>bO (dj mB s) (fun _ s1=>nI mf x s1)))) (nz mf x'):=by
 rw[show al (.ok s) (fun s=>bO (dj mB s) (fun _ s1=>nI mf x s1))=bU (mz mf) ER x s from (Bm hg).symm] at hv ⊢
 unfold nz
 rw[sG (Nd IC) hg hq]
 cases hr:bU (mz mf) ER x s with
 |error y=>rfl
 |ok p =>
  obtain ⟨a,s'⟩:=p
  obtain rfl:=hv a s' hr
  rfl
theorem UZ {mf:ay→Except (Int×Int) (Ms×ay)}{x:Mp}{R:PX}{F0:Except (Int×Int) (Ms×ay)} (hg:lq R) (hq:∀s,R=.ok s→aJ s.here 4 ⟨#[125]⟩=true) (hf:F0=al R (nz mf x)):I4 (aT (al R (au ⟨#[125]⟩)))=aT F0∧∀a s,F0=.ok (a,s)→a=x.done:=by
 subst hf
 match R,hg,hq with
 |.error y,_,_=>exact ⟨rfl,fun _ _ e=>(by cases e)⟩
 |.ok s,hg,hq =>
  have h1:=hq s rfl
  show _=aT (nz mf x s)∧∀a s',nz mf x s=.ok (a,s')→_
  unfold nz tJ
  rw[yA h1,aL]
  dsimp only
  rw[fT (show s.bg=false from hg.bg),show al (.ok s) (au ⟨#[125]⟩)=au ⟨#[125]⟩ s from rfl,gP (show s.bg=false from hg.bg),if_pos h1]
  exact ⟨rfl,fun a s' e=>by cases e;rfl⟩
structure Ua (W:World) (lo b ri ti mi n o:Nat) (F0:Except (Int×Int) (Ms×ay)) (x:Mp) (v:MV) (R:PX) (w:World):Prop where
 g:W.grownBy w (some b)
 z:Zr lo w b R
 r:w.heap[ri]?=some (.cells E7 49 (0,0))
 t:∃(k p:Int) (tx:ByteArray),w.heap[ti]?=some (.cells #[.int .i64 k,.int .i64 p,.string tx] 38 (0,0))
 m:w.heap[mi]?=some (.cells (v.arr x) 49 (0,0))
 s:nL W.heap.size [mi,ti,ri] w x v
 f:F0=al R (nz (bj n) x)
 l:pU 1000000000 (bH x) R
 o:∀s,R=.ok s→s.op=o∧s.ts.length≤n
theorem Ua.kept {W w w':World}{lo b ri ti mi n o:Nat}{F0:Except (Int×Int) (Ms×ay)}{x:Mp}{v:MV}{R:PX} (h:Ua W lo b ri ti mi n o F0 x v R w) (hb:b<W.heap.size∧b<ri∧b<ti∧b<mi) (hg:w.grownBy w' (some b)) (hz:Zr lo w' b R):Ua W lo b ri ti mi n o F0 x v R w':=by
 obtain ⟨k,p,tx,ht⟩:=h.t
 exact ⟨h.g.trans hg,hz,ax hg h.r (by omega),⟨k,p,tx,ax hg ht (by omega)⟩,ax hg h.m (by omega),h.s.kept hg (.inl hb.1),h.f,h.l,h.o⟩
end Go.Proofs.YtjophoclfccmcaaGreatDoor
namespace Go.Proofs.YtjophoclfccmcaaGreatDoor
open Go.RowKit
attribute [local go_sem ↓] Go.wp_at_zero Go.wp_at_succ
theorem Ua.Nr {W w w':World}{lo b ri ti mi n o:Nat}{F0:Except (Int×Int) (Ms×ay)}{x:Mp}{v:MV}{R:PX} (h:Ua W lo b ri ti mi n o F0 x v R w) (hb:b<W.heap.size∧b<ri∧b<ti∧b<mi) (hF:Fm b (v.ss x) w w'):W.grownBy w' (some b)∧w'.heap[ri]?=some (.cells E7 49 (0,0))∧(∃(k p:Int) (tx:ByteArray),w'.heap[ti]?=some (.cells #[.int .i64 k,.int .i64 p,.string tx] 38 (0,0)))∧w'.heap[mi]?=some (.cells (v.arr x) 49 (0,0)):=by
 obtain ⟨k,p,tx,ht⟩:=h.t
 have q:∀(g:Nat) (ob:Obj),g ∈ [mi,ti,ri]→b<g→w.heap[g]?=some ob→w'.heap[g]?=some ob:=fun g ob hm hg hq=>(hF.block g (ib hq) (by omega) (fun i sl hi hk=>h.s.sl.q i sl g hi hk hm)).trans hq
 refine ⟨⟨hF.os.trans h.g.os,hF.tape.trans h.g.tape,hF.output.trans h.g.output,Nat.le_trans h.g.size hF.size,fun k hk dV=>?_⟩,q ri _ (by simp) hb.2.1 h.r,⟨k,p,tx,q ti _ (by simp) hb.2.2.1 ht⟩,q mi _ (by simp) hb.2.2.2 h.m⟩
 refine (hF.block k (Nat.lt_of_lt_of_le hk h.g.size) (by simpa using dV) (fun i sl hi hkk=>?_)).trans (h.g.block k hk dV)
 have:=((h.s.sl.own i sl hi).lt k hkk).1
 omega
def WE (n:Nat):Prop:=∀(W:World) (lo b:Nat) (s0:ay),s0.ts.length≤n→Zr lo W b (.ok s0)→aJ s0.here 1 hU=true→s0.op≤32→Calls Tryz.prog 40 #[.pointer (some ⟨b,0,none⟩),.int .i64 (s0.op:Int)] W (WD lo b W (bj n s0))
theorem zU {n:Nat} (ih:WE n):WE (n+1):=by
 intro W lo b s0 hn h hk ho
 have cB:=h.low
 have l9:Hid (Gd s0):=h.2
 have HK:=ab hk
 have HIH:=ab ih
 have HN:=ab hn
 have HOP:=ab ho
 have HZ:=ab h
 have HG:Hid (W.grownBy W (some b)):=zI _ _
 obtain ⟨op,jU⟩:∃op:Int,op=(s0.op:Int):=⟨_,rfl⟩
 rw[←jU]
 have HO:=ab jU
 clear h hk ih hn ho jU
 have Vm:b<W.heap.size:=by have:=(aa HG).size;omega
 have AQ:W.heap.size≤W.heap.size:=by have:=(aa HG).size;omega
 have aV:=ab (aH (W) (.cells #[.string ⟨#[]⟩,.slice none 0 0,.slice none 0 0,.slice none 0 0,.slice none 0 0,.slice none 0 0,.slice none 0 0] 49))
 replace HZ:=ab ((aa HZ).up ((zE _ _).alloc (zD _) (.cells #[.string ⟨#[]⟩,.slice none 0 0,.slice none 0 0,.slice none 0 0,.slice none 0 0,.slice none 0 0,.slice none 0 0] 49)))
 replace HG:=ab ((aa HG).trans (aO ((zE _ _).alloc (zD _) (.cells #[.string ⟨#[]⟩,.slice none 0 0,.slice none 0 0,.slice none 0 0,.slice none 0 0,.slice none 0 0,.slice none 0 0] 49)) (some b)))
 go_enter Tryz.func40,Tryz.ntmps40
 have qC:=seen (aa aV)
 have qu:=aS (aa aV)
 go_wp2_with fail
 refine (gf (aa HZ)).mono ?_
 rintro e w1 ⟨⟨kt,pt,tt⟩,rfl,hb,hp⟩
 clear qC qu
 have pB:=ab hp
 replace HZ:=ab ((aa HZ).up hb)
 have hg:=aO hb (some b)
 replace aV:=ab (ax hg (aa aV) (by omega))
 replace HG:=ab ((aa HG).trans hg)
 clear hb hp hg
 unfold Tk.val
 have NZ:b<w1.heap.size:=by have:=(aa HG).size;omega
 have RN:W.heap.size≤w1.heap.size:=by have:=(aa HG).size;omega
 have DV:W.heap.size<w1.heap.size:=by have h:=(zA (aa aV)).1;exact h
 replace aV:=ab (bL (aa aV) (.cells #[.int .i64 kt,.int .i64 pt,.string tt] 38))
 have aZ:=ab (aH (w1) (.cells #[.int .i64 kt,.int .i64 pt,.string tt] 38))
 replace HZ:=ab ((aa HZ).up ((zE _ _).alloc (zD _) (.cells #[.int .i64 kt,.int .i64 pt,.string tt] 38)))
 replace HG:=ab ((aa HG).trans (aO ((zE _ _).alloc (zD _) (.cells #[.int .i64 kt,.int .i64 pt,.string tt] 38)) (some b)))
 have qB:=seen (aa aV)
 have qt:=aS (aa aV)
 have lY:=seen (aa aZ)
 have lU:=aS (aa aZ)
 go_upto_if 10 with fail
 go_cut [] (fun wx=>Hid (World.grownBy (w1.alloc (.cells #[.int .i64 kt,.int .i64 pt,.string tt] 38)) wx (some b)∧Zr lo wx b (lF s0 pt)))
 case first =>
  by_cases h1:s0.op=32
  ·have e1:(32:Int)≤op:=by have:=aa HO;omega
   have H1:=ab h1
   clear h1
   go_wp2_with fail
   refine (gV (aa HZ) 53 pt (by decide)).mono ?_
   rintro e w0 ⟨rfl,hg,hz⟩
   have HH:Hid (World.grownBy (w1.alloc (.cells #[.int .i64 kt,.int .i64 pt,.string tt] 38)) w0 (some b)∧Zr lo w0 b (lF s0 pt)):=⟨hg,by unfold lF;rw[if_pos (aa H1)];exact hz⟩
   clear hg hz
   go_wp2
   go_meet
   exact HH
  ·have e1:¬(32:Int)≤op:=by have:=aa HO;have:=aa HOP;omega
   have HH:Hid (World.grownBy (w1.alloc (.cells #[.int .i64 kt,.int .i64 pt,.string tt] 38)) (w1.alloc (.cells #[.int .i64 kt,.int .i64 pt,.string tt] 38)) (some b)∧Zr lo (w1.alloc (.cells #[.int .i64 kt,.int .i64 pt,.string tt] 38)) b (lF s0 pt)):=⟨zI _ _,by unfold lF;rw[if_neg h1];exact aa HZ⟩
   clear h1
   go_wp2
   go_meet
   exact HH
 case rest =>
 obtain ⟨w2,fP⟩:∃x,x=wc:=⟨_,rfl⟩
 subst fP
 clear qB qt lY lU
 obtain ⟨hg,hz⟩:=aa hcut
 replace HZ:=ab hz
 replace aV:=ab (ax hg (aa aV) (by omega))
 replace aZ:=ab (ax hg (aa aZ) (by omega))
 replace HG:=ab ((aa HG).trans hg)
 clear hg hz hcut
 have rQ:=seen (aa aV)
 have rG:=aS (aa aV)
 have oK:=seen (aa aZ)
 have oA:=aS (aa aZ)
 go_wp2_with fail
 refine (eu (aa HZ) ⟨kt,pt,tt⟩).mono ?_
 rintro e w3 ⟨hg,hz,v3,rfl,ni,lv⟩
 clear rQ rG oK oA
 replace HZ:=ab hz
 replace aV:=ab (ax hg (aa aV) (by omega))
 replace aZ:=ab (ax hg (aa aZ) (by omega))
 replace HG:=ab ((aa HG).trans hg)
 clear hg hz
 obtain rfl:=ni
 clear lv
 have oM:=seen (aa aV)
 have oD:=aS (aa aV)
 have oJ:=seen (aa aZ)
 have oy:=aS (aa aZ)
 go_wp2_with fail
 refine (oQ (aa HZ) hU).mono ?_
 rintro e w4 ⟨hg,hz,v4,rfl,qi,qI⟩
 clear oM oD oJ oy
 replace HZ:=ab hz
 replace aV:=ab (ax hg (aa aV) (by omega))
 replace aZ:=ab (ax hg (aa aZ) (by omega))
 replace HG:=ab ((aa HG).trans hg)
 clear hg hz
 obtain rfl:=qi
 clear qI
 have oL:=seen (aa aV)
 have oC:=aS (aa aV)
 have oI:=seen (aa aZ)
 have ox:=aS (aa aZ)
 go_wp2_with fail
 refine (lB (aa HZ)).mono ?_
 rintro e w5 ⟨hg,hz,v5,rfl,BS,nD⟩
 clear oL oC oI ox
 replace HZ:=ab hz
 replace aV:=ab (ax hg (aa aV) (by omega))
 replace aZ:=ab (ax hg (aa aZ) (by omega))
 replace HG:=ab ((aa HG).trans hg)
 clear hg hz
 obtain ⟨nm,rfl,jq⟩:=BS
 have HS:=ab (Na (n:=n) (aa l9) (aa pB) (aa HK) (aa HZ).2 nD)
 clear nD jq pB HK
 have Vl:b<w5.heap.size:=by have:=(aa HG).size;omega
 have N3:W.heap.size≤w5.heap.size:=by have:=(aa HG).size;omega
 have Kz:W.heap.size<w5.heap.size:=by have h:=(zA (aa aV)).1;exact h
 have F7:w1.heap.size<w5.heap.size:=by have h:=(zA (aa aZ)).1;exact h
 replace aV:=ab (bL (aa aV) (.cells #[.string nm,.slice none 0 0,.slice none 0 0,.slice none 0 0,.slice none 0 0,.slice none 0 0,.slice none 0 0] 49))
 replace aZ:=ab (bL (aa aZ) (.cells #[.string nm,.slice none 0 0,.slice none 0 0,.slice none 0 0,.slice none 0 0,.slice none 0 0,.slice none 0 0] 49))
 have bF:=ab (aH (w5) (.cells #[.string nm,.slice none 0 0,.slice none 0 0,.slice none 0 0,.slice none 0 0,.slice none 0 0,.slice none 0 0] 49))
 replace HZ:=ab ((aa HZ).up ((zE _ _).alloc (zD _) (.cells #[.string nm,.slice none 0 0,.slice none 0 0,.slice none 0 0,.slice none 0 0,.slice none 0 0,.slice none 0 0] 49)))
 replace HG:=ab ((aa HG).trans (aO ((zE _ _).alloc (zD _) (.cells #[.string nm,.slice none 0 0,.slice none 0 0,.slice none 0 0,.slice none 0 0,.slice none 0 0,.slice none 0 0] 49)) (some b)))
 have qA:=seen (aa aV)
 have qs:=aS (aa aV)
 have qz:=seen (aa aZ)
 have qp:=aS (aa aZ)
 have sY:=seen (aa bF)
 have sU:=aS (aa bF)
 go_wp2_with fail
 refine (eW (aa HZ) ⟨#[123]⟩).mono ?_
 rintro e w6 ⟨hg,hz,v6,rfl,Vw,hv6⟩
 clear qA qs qz qp sY sU
 replace HZ:=ab hz
 replace aV:=ab (ax hg (aa aV) (by omega))
 replace aZ:=ab (ax hg (aa aZ) (by omega))
 replace bF:=ab (ax hg (aa bF) (by omega))
 replace HG:=ab ((aa HG).trans hg)
 clear hg hz
 obtain rfl:=Vw
 clear hv6
 have Um:=ab (fun s4=>Rq (s4:=s4) (pt:=pt) (aa l9))
 have Ug:=ab (aa HZ).QH
 obtain ⟨R4,IJ⟩:∃R4,R4=QH (aT (al (aT (al (aT (al (aT (al (lF s0 pt) (aP pt))) (cl hU))) aR)) (au ⟨#[123]⟩))):=⟨_,rfl⟩
 rw[←IJ] at Ug HS Um
 obtain ⟨F0,sP⟩:∃F0,F0=bj (n+1) s0:=⟨_,rfl⟩
 rw[←sP] at HS
 have E5:=ab sP
 obtain ⟨mi,IB⟩:∃i,i=w5.heap.size:=⟨_,rfl⟩
 obtain ⟨ti,IA⟩:∃i,i=w1.heap.size:=⟨_,rfl⟩
 rw[←IB] at bF Vl N3 Kz F7 ⊢
 rw[←IA] at aZ NZ RN DV F7 ⊢
 clear IJ sP IB IA HZ
 have Qj:nL W.heap.size [mi,ti,W.heap.size] w6 ⟨nm,[],[],[],[],[],[]⟩ ⟨(none,0),(none,0),(none,0),(none,0),(none,0),(none,0),[],[]⟩:=by
  refine ⟨⟨fun i sl hs=>?_,fun i j a c hij ha hc k hk=>?_,fun i sl k hs hk=>?_,fun k hk=>?_⟩,.nil,.nil⟩
  ·match i,hs with
   |0,hs=>cases hs;exact World.ownsRow_nil _ _ _ _
   |1,hs=>cases hs;exact World.ownsRow_nil _ _ _ _
   |2,hs=>cases hs;exact World.ownsRow_nil _ _ _ _
   |3,hs=>cases hs;exact World.ownsRow_nil _ _ _ _
   |4,hs=>cases hs;exact World.ownsRow_nil _ _ _ _
   |5,hs=>cases hs;exact World.ownsRow_nil _ _ _ _
   |i+6,hs=>cases hs
  ·match i,ha with
   |0,ha=>cases ha;cases hk
   |1,ha=>cases ha;cases hk
   |2,ha=>cases ha;cases hk
   |3,ha=>cases ha;cases hk
   |4,ha=>cases ha;cases hk
   |5,ha=>cases ha;cases hk
   |i+6,ha=>cases ha
  ·match i,hs with
   |0,hs=>cases hs;cases hk
   |1,hs=>cases hs;cases hk
   |2,hs=>cases hs;cases hk
   |3,hs=>cases hs;cases hk
   |4,hs=>cases hs;cases hk
   |5,hs=>cases hs;cases hk
   |i+6,hs=>cases hs
  ·have e1:=ib (aa bF)
   have e2:=ib (aa aZ)
   have e3:=ib (aa aV)
   simp only[List.mem_cons,List.not_mem_nil,or_false] at hk
   rcases hk with rfl|rfl|rfl
   ·exact e1
   ·exact e2
   ·exact e3
 have HE:Hid (Ua W lo b W.heap.size ti mi n (s0.op+1) F0 ⟨nm,[],[],[],[],[],[]⟩ ⟨(none,0),(none,0),(none,0),(none,0),(none,0),(none,0),[],[]⟩ R4 w6):=⟨aa HG,aa Ug,aa aV,⟨_,_,_,aa aZ⟩,aa bF,Qj,aa HS,⟨by unfold bH;simp,fun s e=>by have:=(aa Ug).2;rw[e] at this;have:=Gd.len this;unfold bH;simp;omega⟩,fun s e=>by have h1:=aa Um s e;have h2:=aa HN;exact ⟨h1.2.1,by omega⟩⟩
 have WX:Hid (∀s,R4=.ok s→s0.op≠32):=fun s e=>(aa Um s e).2.2
 have mO:b<W.heap.size∧b<W.heap.size∧b<ti∧b<mi:=⟨by omega,by omega,by omega,by omega⟩
 clear Qj HG Ug aV aZ bF HS Um
 go_wp2
 go_loopg [] (mR R4) (fun gk wr=>∃(x:Mp) (v:MV) (Rk:PX),gk=mR Rk∧Hid ((∀s,Rk=.ok s→s0.op≠32)∧Ua W lo b W.heap.size ti mi n (s0.op+1) F0 x v Rk wr))
 case atStart=>exact ⟨_,_,R4,rfl,aa WX,aa HE⟩
 case round =>
  clear HE WX
  obtain ⟨x,v,Rk,eG,Xb⟩:=hrel
  have WX:=ab (aa Xb).1
  have Av:=ab (aa Xb).2
  have zu:=ab eG
  clear eG Xb
  obtain ⟨er,SH,her⟩:=(aa Av).z.err
  go_upto_region 8 with fail
  go_cut [34] from 25 to 38 (fun v34 wx=>v34=.bool (M3 Rk&&!(fU Rk 4 ⟨#[125]⟩))∧Hid (Below wr.heap.size wr wx))
  case first =>
   cases Rk with
   |error y =>
    replace her:(er==0)=false:=her
    go_wp2
    go_meet
    exact ⟨rfl,zE _ _⟩
   |ok s =>
    replace her:(er==0)=true:=her
    go_wp2_with fail
    refine (iw (aa Av).z 4 (by decide) ⟨#[125]⟩).mono ?_
    rintro e w0 ⟨rfl,hb⟩
    have HB:=ab hb
    clear hb
    go_wp2
    go_meet
    exact ⟨rfl,HB⟩
  case rest =>
  obtain ⟨zW,fP⟩:∃x,x=wc:=⟨_,rfl⟩
  subst fP
  obtain ⟨rfl,hb⟩:=hcut
  have jV:=ab ((aa Av).kept mO (aO (aa hb) (some b)) ((aa Av).z.up (aa hb)))
  clear hb SH her Av
  obtain ⟨q,hq⟩:∃q,(M3 Rk&&!(fU Rk 4 ⟨#[125]⟩))=q:=⟨_,rfl⟩
  rw[hq]
  have jx:=ab hq
  clear hq
  cases q with
  |true =>
   obtain ⟨s,rfl,Ty⟩:∃s,Rk=.ok s∧¬aJ s.here 4 ⟨#[125]⟩=true:=by
    have hq:=aa jx
    match Rk,hq with
    |.error y,hq=>cases hq
    |.ok s,hq =>
     refine ⟨s,rfl,?_⟩
     have:(true&&!(aJ s.here 4 ⟨#[125]⟩))=true:=hq
     intro h1
     rw[h1] at this
     cases this
   have zT:Hid (Gd s):=(aa jV).z.2
   have HNS:=ab Ty
   have HOS:=ab ((aa jV).o s rfl)
   have hm:zW.heap[mi]?=some (.cells (v.arr x) 49 (0,0)):=(aa jV).m
   have HCT:=ab (Jw (W:=zW) (lo:=lo) (b:=b) (l:=W.heap.size) (L:=[mi,ti,W.heap.size]) (s0:=s) (x:=x) (v:=v) (op:=op) (mf:=bj n) (kX n) (aa jV).z ⟨cB.2,(aa jV).g.size⟩ (aa jV).s (aa jV).l (fun hq w hz=>by
    have h1:=aa HOS
    have h2:=aa WX s rfl
    have h3:=aa HOP
    have h4:wrap64 (op+1)=((s.op:Nat):Int):=by rw[aa HO,h1.1];exact eJ ⟨by omega,by omega⟩
    rw[h4]
    exact aa HIH w lo b s h1.2 hz hq (by omega)))
   obtain ⟨xn,xf,xo,xm,xe,xr,xg⟩:=x
   obtain ⟨⟨fa,fc⟩,⟨oa,oc⟩,⟨ma,mc⟩,⟨ea,ec⟩,⟨ra,rc⟩,⟨ga,gc⟩,cm,ce⟩:=v
   unfold MV.arr at hm HCT
   simp only at hm HCT
   obtain ⟨⟨TZ,XT,TY,XS,cm4,cm5,cm6⟩,R7⟩:=cK hm
   clear R7 hm Ty jx
   go_wp2_with fail
   refine (aa HCT).mono ?_
   rintro e LY ⟨hF,hz,⟨yn,yf,yo,ym,ye,yr,yg⟩,⟨⟨f1,f2⟩,⟨o1,o2⟩,⟨m1,m2⟩,⟨e1,e2⟩,⟨r1,r2⟩,⟨g1,g2⟩,QI,QJ⟩,rfl,hM,hO,Qn,dA⟩
   obtain ⟨lz,AR,EV,AS⟩:=(aa jV).Nr mO hF
   have IB:W.heap.size≤mi:=N3
   obtain ⟨t1,t2⟩:=dJ (show LY.heap[mi]?=some (.cells #[.string xn,.slice fa xf.length fc,.slice oa xo.length oc,.slice ma xm.length mc,.slice ea xe.length ec,.slice ra xr.length rc,.slice ga xg.length gc] 49 (0,0)) from AS) (.string yn) (.slice f1 yf.length f2) (.slice o1 yo.length o2) (.slice m1 ym.length m2) (.slice e1 ye.length e2) (.slice r1 yr.length r2) (.slice g1 yg.length g2)
   obtain ⟨⟨cn0,cn1,cn2,cn3,cn4,cn5,cn6⟩,qJ⟩:=cK (show LY.heap[mi]?=some (.cells #[.string xn,.slice fa xf.length fc,.slice oa xo.length oc,.slice ma xm.length mc,.slice ea xe.length ec,.slice ra xr.length rc,.slice ga xg.length gc] 49 (0,0)) from AS)
   have fn0:=qJ 0
   have fn1:=qJ 1
   have fn2:=qJ 2
   have fn3:=qJ 3
   have fn4:=qJ 4
   have fn5:=qJ 5
   have fn6:=qJ 6
   have pq:F0=al (aT (al (.ok s) (fun s=>bO (dj mB s) (fun _ s1=>nI (bj n) ⟨xn,xf,xo,xm,xe,xr,xg⟩ s1)))) (nz (bj n) ⟨yn,yf,yo,ym,ye,yr,yg⟩):=by
    rw[←Nc (kX n) (aa zT) (aa HNS) dA]
    exact (aa jV).f
   obtain ⟨kk,pp,tx2,htt⟩:=EV
   have tX:=ab (fun s'=>Rp (s':=s') (kX n) (x:=⟨xn,xf,xo,xm,xe,xr,xg⟩) (aa zT))
   obtain ⟨R6,XK⟩:∃R6,R6=aT (al (.ok s) (fun s=>bO (dj mB s) (fun _ s1=>nI (bj n) ⟨xn,xf,xo,xm,xe,xr,xg⟩ s1))):=⟨_,rfl⟩
   rw[←XK] at pq tX hz Qn
   have lN:Hid (Ua W lo b W.heap.size ti mi n (s0.op+1) F0 ⟨yn,yf,yo,ym,ye,yr,yg⟩ ⟨(f1,f2),(o1,o2),(m1,m2),(e1,e2),(r1,r2),(g1,g2),QI,QJ⟩ R6 _):=⟨cx lz t2 IB,hz.gu t2 (by omega),ax t2 AR (by omega),⟨kk,pp,tx2,ax t2 htt (by omega)⟩,t1,hM.kept t2 (.inr (by simp)),pq,Qn,fun s' e=>by have h1:=aa tX s' e;have h2:=aa HOS;exact ⟨h1.2.trans h2.1,by omega⟩⟩
   have acK:Hid (∀s',R6=.ok s'→s0.op≠32):=fun _ _=>aa WX s rfl
   have HM:Hid (mR R6<gk):=by
    have h1:=aa zu
    show _<gk
    rw[h1]
    cases hr:R6 with
    |error y=>show 0<s.ts.length+1;omega
    |ok s'=>have:=(aa tX s' hr).1;show s'.ts.length+1<s.ts.length+1;omega
   clear hF hz hM hO Qn dA lz AR htt AS t1 t2 pq XK tX qJ HCT jV TZ XT TY XS cm4 cm5 cm6
   unfold MV.arr
   go_wp2
   go_roundg (mR R6)
   case measure=>exact aa HM
   case rel=>exact ⟨_,_,R6,rfl,aa acK,aa lN⟩
  |false =>
   have hq:∀s,Rk=.ok s→aJ s.here 4 ⟨#[125]⟩=true:=by
    intro s e
    have hq:=aa jx
    rw[e] at hq
    have:(true&&!(aJ s.here 4 ⟨#[125]⟩))=false:=hq
    cases h1:aJ s.here 4 ⟨#[125]⟩ with
    |true=>rfl
    |false=>rw[h1] at this;cases this
   have W6:=ab (UZ (aa jV).z.2 hq (aa jV).f)
   clear hq jx
   go_wp2_with fail
   refine (eW (aa jV).z ⟨#[125]⟩).mono ?_
   rintro e LY ⟨hg,hz,v0,rfl,mD,-⟩
   obtain rfl:=mD
   have jK:Zr lo LY b (aT F0):=by
    rw[←(aa W6).1]
    exact hz.I4
   have lz:=(aa jV).g.trans hg
   have AS:LY.heap[mi]?=some (.cells (v.arr x) 49 (0,0)):=ax hg (aa jV).m (by omega)
   have AR:LY.heap[W.heap.size]?=some (.cells E7 49 (0,0)):=ax hg (aa jV).r (by omega)
   have Oa:=(aa jV).s.kept hg (.inl mO.1)
   obtain ⟨xn,xf,xo,xm,xe,xr,xg⟩:=x
   obtain ⟨⟨fa,fc⟩,⟨oa,oc⟩,⟨ma,mc⟩,⟨ea,ec⟩,⟨ra,rc⟩,⟨ga,gc⟩,cm,ce⟩:=v
   unfold MV.arr at AS
   simp only at AS
   unfold E7 at AR
   obtain ⟨⟨TZ,XT,TY,XS,cm4,cm5,cm6⟩,R7⟩:=cK AS
   obtain ⟨⟨xC,xB,xA,cr3,cr4,cr5,cr6⟩,dp⟩:=cK AR
   have uu:=dp 0
   have ur:=dp 1
   have uq:=dp 2
   have fr3:=dp 3
   have fr4:=dp 4
   have fr5:=dp 5
   have fr6:=dp 6
   obtain ⟨t1,t2⟩:=dJ AR (.string xn) (.slice fa xf.length fc) (.slice oa xo.length oc) (.slice ma xm.length mc) (.slice ea xe.length ec) (.slice ra xr.length rc) (.slice ga xg.length gc)
   have T1:=ab t1
   have T2:=ab (cx lz t2 (zD _))
   have T3:=ab (jK.gu t2 cB.2)
   have T4:=ab ((Oa.kept t2 (.inr (by simp))).less (L':=[]) (by simp))
   have T5:=ab (aa W6).2
   have F5:W.heap.size≠mi:=by omega
   clear t1 t2 hg hz jK lz AS AR Oa R7 dp W6 jV
   go_wp2
   refine bodyPost_ret (results_cell_row rfl _ _ W.heap.size 49 #[.string xn,.slice fa xf.length fc,.slice oa xo.length oc,.slice ma xm.length mc,.slice ea xe.length ec,.slice ra xr.length rc,.slice ga xg.length gc] (0,0) _ rfl (aa T1) Tryz.underlying49 rfl jY) rfl ?_
   rw[←aa E5]
   exact ⟨aa T2,aa T3,⟨xn,xf,xo,xm,xe,xr,xg⟩,⟨(fa,fc),(oa,oc),(ma,mc),(ea,ec),(ra,rc),(ga,gc),cm,ce⟩,rfl,aa T4,aa T5⟩
theorem Fa (n:Nat):WE n:=by
 induction n with
 |zero =>
  intro W lo b s0 hn h hk ho
  have:=eR h.2.en hk (by decide)
  omega
 |succ n ih=>exact zU ih
end Go.Proofs.YtjophoclfccmcaaGreatDoor
namespace Go.Proofs.YtjophoclfccmcaaGreatDoor
open Go.RowKit
def rb:ByteArray:=⟨#[112,97,99,107,97,103,101]⟩
def xv:List ByteArray:=[⟨#[111,112,116,105,111,110]⟩,⟨#[115,101,114,118,105,99,101]⟩,⟨#[101,120,116,101,110,100]⟩]
noncomputable def pkX (s:ay):Except (Int×Int) (ByteArray×ay):=bO (ba false s) (fun p s2=>bO (au ⟨#[59]⟩ s2) (fun _ s3=>.ok (p,s3)))
noncomputable def D8 (x:Fl) (s:ay):Except (Int×Int) (Fl×ay) :=
 if aJ s.here 4 ⟨#[59]⟩=true then .ok (x,s.nx)
 else if aJ s.here 1 rb=true∧(x.iT.toList==[])=true then bO (pkX s.nx) (fun p s'=>.ok ({ x with iT:=p },s'))
 else if aJ s.here 1 j6=true then bO (bq s) (fun d s'=>.ok ({ x with fO:=x.fO++[d] },s'))
 else if aJ s.here 1 hU=true then bO (bj 16384 s) (fun d s'=>.ok ({ x with ms:=x.ms++[d] },s'))
 else if aJ s.here 1 lj=true then bO (db s) (fun d s'=>.ok ({ x with es:=x.es++[d] },s'))
 else .error (bR s)
theorem V6 {k:ByteArray} (e:k=⟨#[111,112,116,105,111,110]⟩):k ∈ xv:=by
 subst e
 unfold xv
 simp only[List.mem_cons,true_or]
theorem Sk {k:ByteArray} (e:k=⟨#[115,101,114,118,105,99,101]⟩):k ∈ xv:=by
 subst e
 unfold xv
 simp only[List.mem_cons,true_or,or_true]
theorem Sj {k:ByteArray} (e:k=⟨#[101,120,116,101,110,100]⟩):k ∈ xv:=by
 subst e
 unfold xv
 simp only[List.mem_cons,true_or,or_true]
theorem aam (k:ByteArray):(k=rb∧pP k=some qb)∨(k=j6∧pP k=some Ko)∨(k=hU∧pP k=some XQ)∨(k=lj∧pP k=some XR)∨(k ∈ xv∧pP k=some dv)∨((k≠rb∧k≠j6∧k≠hU∧k≠lj∧k ∉ xv)∧pP k=none):=by
 by_cases h1:(k==(⟨#[112,97,99,107,97,103,101]⟩:ByteArray))=true
 ·exact .inl ⟨gC h1,by unfold pP;rw[if_pos h1]⟩
 by_cases h2:(k==(⟨#[105,109,112,111,114,116]⟩:ByteArray))=true
 ·exact .inr (.inl ⟨gC h2,by unfold pP;rw[if_neg h1,if_pos h2]⟩)
 by_cases h3:(k==(⟨#[109,101,115,115,97,103,101]⟩:ByteArray))=true
 ·exact .inr (.inr (.inl ⟨gC h3,by unfold pP;rw[if_neg h1,if_neg h2,if_pos h3]⟩))
 by_cases h4:(k==(⟨#[101,110,117,109]⟩:ByteArray))=true
 ·exact .inr (.inr (.inr (.inl ⟨gC h4,by unfold pP;rw[if_neg h1,if_neg h2,if_neg h3,if_pos h4]⟩)))
 by_cases h5:(k==(⟨#[111,112,116,105,111,110]⟩:ByteArray))=true
 ·exact .inr (.inr (.inr (.inr (.inl ⟨V6 (gC h5),by unfold pP;rw[if_neg h1,if_neg h2,if_neg h3,if_neg h4,if_pos h5]⟩))))
 by_cases h6:(k==(⟨#[115,101,114,118,105,99,101]⟩:ByteArray))=true
 ·exact .inr (.inr (.inr (.inr (.inl ⟨Sk (gC h6),by unfold pP;rw[if_neg h1,if_neg h2,if_neg h3,if_neg h4,if_neg h5,if_pos h6]⟩))))
 by_cases h7:(k==(⟨#[101,120,116,101,110,100]⟩:ByteArray))=true
 ·exact .inr (.inr (.inr (.inr (.inl ⟨Sj (gC h7),by unfold pP;rw[if_neg h1,if_neg h2,if_neg h3,if_neg h4,if_neg h5,if_neg h6,if_pos h7]⟩))))
 refine .inr (.inr (.inr (.inr (.inr ⟨⟨fun e=>h1 (by rw[e];decide +kernel),fun e=>h2 (by rw[e];decide +kernel),fun e=>h3 (by rw[e];decide +kernel),fun e=>h4 (by rw[e];decide +kernel),fun hm=>?_⟩,by unfold pP;rw[if_neg h1,if_neg h2,if_neg h3,if_neg h4,if_neg h5,if_neg h6,if_neg h7]⟩))))
 unfold xv at hm
 simp only[List.mem_cons,List.not_mem_nil,or_false] at hm
 rcases hm with e|e|e
 ·exact h5 (by rw[e];decide +kernel)
 ·exact h6 (by rw[e];decide +kernel)
 ·exact h7 (by rw[e];decide +kernel)
theorem B7 {k W:ByteArray} (e:k=W) (h:∀x ∈ xv,W≠x):k ∉ xv:=fun q=>h k q e.symm
theorem QU {x:Fl}{s:ay} (hg:Gd s):bU pP IZ x s=bO (dj xv s) (fun _ s1=>D8 x s1):=by
 unfold bU
 rw[cV hg.bg]
 by_cases h0:aJ s.here 4 ⟨#[59]⟩=true
 ·have hk:=(bk.1 h0).1
  rw[if_pos h0,lE (fun q=>by rw[hk] at q;exact absurd q.1 (by decide)),aL]
  unfold D8
  rw[if_pos h0]
 ·rw[if_neg h0]
  dsimp only
  by_cases h1:s.here.kind=1
  ·have rz:s.here.text ∉ xv→bO (dj xv s) (fun _ s1=>D8 x s1)=D8 x s:=fun q=>by rw[lE (fun p=>q p.2),aL]
   rcases aam s.here.text with ⟨e,hm⟩|⟨e,hm⟩|⟨e,hm⟩|⟨e,hm⟩|⟨e,hm⟩|⟨⟨e1,e2,e3,e4,e5⟩,hm⟩
   ·rw[hm]
    dsimp only
    rw[if_pos h1,rz (B7 e (by unfold xv;simp only[List.mem_cons,List.not_mem_nil,or_false];rintro x (rfl|rfl|rfl)<;>exact cb (by decide +kernel)))]
    unfold D8
    rw[if_neg h0]
    unfold qb
    by_cases hp:(x.iT.toList==[])=true
    ·rw[if_pos hp,if_pos ⟨bk.2 ⟨h1,e⟩,hp⟩,fT hg.bg]
     dsimp only
     unfold pkX
     cases ba false s.nx with
     |error y=>rfl
     |ok p =>
      rw[aL]
      dsimp only
      cases au ⟨#[59]⟩ p.2 with
      |error y=>rfl
      |ok q=>rfl
    ·rw[if_neg hp,if_neg (fun q=>hp q.2),if_neg (bM e (cb (by decide +kernel))),if_neg (bM e (cb (by decide +kernel))),if_neg (bM e (cb (by decide +kernel)))]
   ·rw[hm]
    dsimp only
    rw[if_pos h1,rz (B7 e (by unfold xv;simp only[List.mem_cons,List.not_mem_nil,or_false];rintro x (rfl|rfl|rfl)<;>exact cb (by decide +kernel)))]
    unfold D8
    rw[if_neg h0,if_neg (fun q=>bM e (cb (by decide +kernel)) q.1),if_pos (bk.2 ⟨h1,e⟩)]
    unfold Ko
    cases bq s with
    |error y=>rfl
    |ok p=>rfl
   ·rw[hm]
    dsimp only
    rw[if_pos h1,rz (B7 e (by unfold xv;simp only[List.mem_cons,List.not_mem_nil,or_false];rintro x (rfl|rfl|rfl)<;>exact cb (by decide +kernel)))]
    unfold D8
    rw[if_neg h0,if_neg (fun q=>bM e (cb (by decide +kernel)) q.1),if_neg (bM e (cb (by decide +kernel))),if_pos (bk.2 ⟨h1,e⟩)]
    unfold XQ
    cases bj 16384 s with
    |error y=>rfl
    |ok p=>rfl
   ·rw[hm]
    dsimp only
    rw[if_pos h1,rz (B7 e (by unfold xv;simp only[List.mem_cons,List.not_mem_nil,or_false];rintro x (rfl|rfl|rfl)<;>exact cb (by decide +kernel)))]
    unfold D8
    rw[if_neg h0,if_neg (fun q=>bM e (cb (by decide +kernel)) q.1),if_neg (bM e (cb (by decide +kernel))),if_neg (bM e (cb (by decide +kernel))),if_pos (bk.2 ⟨h1,e⟩)]
    unfold XR
    cases db s with
    |error y=>rfl
    |ok p=>rfl
   ·rw[hm]
    dsimp only
    rw[if_pos h1,Fy h1 e]
    rfl
   ·rw[hm]
    dsimp only
    rw[rz e5]
    unfold D8
    rw[if_neg h0,if_neg (fun q=>bM rfl e1 q.1),if_neg (bM rfl e2),if_neg (bM rfl e3),if_neg (bM rfl e4)]
    rfl
  ·rw[lE (fun q=>h1 q.1),aL]
   unfold D8
   rw[if_neg h0,if_neg (fun q=>gj h1 _ q.1),if_neg (gj h1 _),if_neg (gj h1 _),if_neg (gj h1 _)]
   cases pP s.here.text with
   |none=>rfl
   |some f=>simp only[if_neg h1];rfl
theorem TR (x:Fl) (s:ay) (x':Fl) (s':ay) (h:bU pP IZ x s=.ok (x',s')):Gt s s'∧(s.en.kind=5→0<s.ts.length):=gX OM (fun x s x' s' h=>by cases h) h
theorem sV:∀(f g:Nat) (x:Fl) (s:ay),s.en.kind=5→s.ts.length<f→s.ts.length<g→lW (bU pP IZ) f x s=lW (bU pP IZ) g x s
 |0,_,_,_,_,h,_=>absurd h (by omega)
 |_+1,0,_,_,_,_,h=>absurd h (by omega)
 |f+1,g+1,x,s,he,hf,hg=>by
  unfold lW
  by_cases hq:s.here.kind=5
  ·rw[if_pos hq,if_pos hq]
  ·rw[if_neg hq,if_neg hq]
   cases hs:bU pP IZ x s with
   |error y=>rfl
   |ok p =>
    obtain ⟨x',s'⟩:=p
    obtain ⟨h1,h2⟩:=TR x s x' s' hs
    have h3:=dP h1 (h2 he)
    obtain ⟨_,_,_,e⟩:=h1
    exact sV f g x' s' (by rw[e];exact he) (by omega) (by omega)
def N5 (s:ay):Prop:=∀t ∈ s.ts,t.kind≠5
theorem N5.gi {s s':ay} (h:N5 s) (hs:jk s s'):N5 s':=by
 obtain ⟨k,e,_⟩:=hs
 intro t ht
 rw[e] at ht
 exact h t (List.mem_of_mem_drop ht)
noncomputable def dX (x:Fl) (s:ay):Except (Int×Int) (Fl×ay):=lW (bU pP IZ) 20000 x s
noncomputable def gA (x:Fl) (s:ay):Except (Int×Int) (Fl×ay):=bO (D8 x s) (fun x' s'=>dX x' s')
theorem V9 {x:Fl}{s:ay} (hg:Gd s) (h:¬0<s.ts.length):dX x s=.ok (x,s):=by
 have h0:s.ts=[]:=List.eq_nil_of_length_eq_zero (by omega)
 have h5:s.here.kind=5:=by unfold ay.here;rw[h0];exact hg.en
 show (if s.here.kind=5 then _ else _)=_
 rw[if_pos h5]
theorem OK {x:Fl}{s:ay} (hg:Gd s) (h5:N5 s) (hp:0<s.ts.length):dX x s=al (aT (al (.ok s) (dj xv))) (gA x):=by
 have hk:¬s.here.kind=5:=by
  unfold ay.here
  cases CG:s.ts with
  |nil=>rw[CG] at hp;simp at hp
  |cons t r=>exact h5 t (by rw[CG];simp)
 have h1:dX x s=bO (bU pP IZ x s) (fun x' s'=>dX x' s'):=by
  show (if s.here.kind=5 then _ else _)=_
  rw[if_neg hk]
  cases hs:bU pP IZ x s with
  |error y=>rfl
  |ok p =>
   obtain ⟨x',s'⟩:=p
   obtain ⟨h1,h2⟩:=TR x s x' s' hs
   have h3:=dP h1 hp
   have h4:=hg.len
   obtain ⟨_,_,_,e⟩:=h1
   exact sV 19999 20000 x' s' (by rw[e];exact hg.en) (by omega) (by omega)
 rw[h1,QU hg,seq_assoc,fe]
 rfl
theorem Ss {s:ay} (hg:Gd s) (ld:lq (aT (Bk s))):iB s=al (aT (Bk s)) (dX ⟨⟨#[]⟩,[],[],[]⟩):=by
 unfold iB
 unfold Bk at ld ⊢
 rw[cV hg.bg]
 unfold cl at ld ⊢
 by_cases h0:aJ s.here 1 Da=true
 ·rw[if_pos h0,aL] at ld
  rw[if_pos h0,aL,if_pos (show aJ s.here 1 ⟨#[115,121,110,116,97,120]⟩=true from h0)]
  dsimp only at ld ⊢
  cases h1:au ⟨#[61]⟩ s.nx with
  |error y=>rfl
  |ok p1 =>
   rw[h1,aL] at ld
   rw[aL]
   dsimp only
   cases h2:bB dF p1.2 with
   |error y=>rfl
   |ok p2 =>
    rw[h2,aL] at ld
    rw[aL]
    dsimp only
    cases h3:au ⟨#[59]⟩ p2.2 with
    |error y=>rfl
    |ok p3 =>
     rw[h3] at ld
     obtain ⟨a3,s3⟩:=p3
     have KD:Gd s3:=ld
     show iZ s3=dX _ s3
     have:=KD.len
     exact sV _ _ _ _ KD.en (by omega) (by omega)
 ·rw[if_neg h0,if_neg (show ¬aJ s.here 1 ⟨#[115,121,110,116,97,120]⟩=true from h0)]
  rfl
theorem QS {s s':ay} (h:aT (Bk s)=.ok s'):jk s s':=by
 unfold Bk cl at h
 by_cases h0:aJ s.here 1 Da=true
 ·rw[if_pos h0,aL] at h
  dsimp only at h
  cases h1:au ⟨#[61]⟩ s.nx with
  |error y=>rw[h1] at h;cases h
  |ok p1 =>
   rw[h1,aL] at h
   cases h2:bB dF p1.2 with
   |error y=>rw[h2] at h;cases h
   |ok p2 =>
    rw[h2,aL] at h
    cases h3:au ⟨#[59]⟩ p2.2 with
    |error y=>rw[h3] at h;cases h
    |ok p3 =>
     rw[h3] at h
     obtain rfl:p3.2=s':=by simpa[aT] using h
     exact ((jk.tail (s1:=s.nx) rfl ⟨rfl,rfl⟩).trans (bw (x:=⟨#[61]⟩) h1)).trans ((ju h2).1.gi.trans (bw h3))
 ·rw[if_neg h0] at h;cases h
theorem Kc {x:Fl}{s:ay} (h:aJ s.here 4 ⟨#[59]⟩=true):gA x s=dX x s.nx:=by
 unfold gA D8
 rw[if_pos h]
 rfl
theorem Nl {x:Fl}{s:ay}{p:ByteArray} (h0:¬aJ s.here 4 ⟨#[59]⟩=true) (h1:aJ s.here 1 rb=true) (h2:(x.iT.toList==[])=true) (hv:∀a s',al (kK (.ok s)) (fun s=>ba false (ll false s))=.ok (a,s')→Value.string p=.string a) :
  gA x s=al (aT (al (aT (al (kK (.ok s)) (fun s=>ba false (ll false s)))) (au ⟨#[59]⟩))) (dX { x with iT:=p }):=by
 unfold gA D8
 rw[if_neg h0,if_pos ⟨h1,h2⟩]
 unfold pkX
 rw[show al (kK (.ok s)) (fun s=>ba false (ll false s))=ba false s.nx from rfl] at hv ⊢
 cases hr:ba false s.nx with
 |error y=>rfl
 |ok q =>
  obtain ⟨a,s'⟩:=q
  obtain rfl:p=a:=by simpa using hv a s' hr
  rw[aL]
  show _=al (aT (au ⟨#[59]⟩ s')) _
  dsimp only
  cases au ⟨#[59]⟩ s' with
  |error y=>rfl
  |ok q=>rfl
theorem Np {x:Fl}{s:ay}{d:ByteArray} (h0:¬aJ s.here 4 ⟨#[59]⟩=true) (h1:¬aJ s.here 1 rb=true) (h2:aJ s.here 1 j6=true) (hv:∀a s',al (.ok s) bq=.ok (a,s')→Value.string d=.string a) :
  gA x s=al (aT (al (.ok s) bq)) (dX { x with fO:=x.fO++[d] }):=by
 unfold gA D8
 rw[if_neg h0,if_neg (fun q=>h1 q.1),if_pos h2]
 rw[show al (.ok s) bq=bq s from rfl] at hv ⊢
 cases hr:bq s with
 |error y=>rfl
 |ok q =>
  obtain ⟨a,s'⟩:=q
  obtain rfl:d=a:=by simpa using hv a s' hr
  rfl
theorem Nn {x:Fl}{s:ay}{d:Ms} (h0:¬aJ s.here 4 ⟨#[59]⟩=true) (h1:¬aJ s.here 1 rb=true) (h2:¬aJ s.here 1 j6=true) (h3:aJ s.here 1 hU=true) (hv:∀a s',bj 16384 s=.ok (a,s')→a=d) :
  gA x s=al (aT (bj 16384 s)) (dX { x with ms:=x.ms++[d] }):=by
 unfold gA D8
 rw[if_neg h0,if_neg (fun q=>h1 q.1),if_neg h2,if_pos h3]
 cases hr:bj 16384 s with
 |error y=>rfl
 |ok q =>
  obtain ⟨a,s'⟩:=q
  obtain rfl:=hv a s' hr
  rfl
theorem RB {x:Fl}{s:ay}{d:En} (h0:¬aJ s.here 4 ⟨#[59]⟩=true) (h1:¬aJ s.here 1 rb=true) (h2:¬aJ s.here 1 j6=true) (h3:¬aJ s.here 1 hU=true) (h4:aJ s.here 1 lj=true) (hv:∀a s',al (.ok s) db=.ok (a,s')→a=d) :
  gA x s=al (aT (al (.ok s) db)) (dX { x with es:=x.es++[d] }):=by
 unfold gA D8
 rw[if_neg h0,if_neg (fun q=>h1 q.1),if_neg h2,if_neg h3,if_pos h4]
 rw[show al (.ok s) db=db s from rfl] at hv ⊢
 cases hr:db s with
 |error y=>rfl
 |ok q =>
  obtain ⟨a,s'⟩:=q
  obtain rfl:=hv a s' hr
  rfl
theorem FM {x:Fl}{R:PX} (h0:fU R 4 ⟨#[59]⟩=false) (h1:fU R 1 rb=true→(x.iT.toList==[])=false) (h2:fU R 1 j6=false) (h3:fU R 1 hU=false) (h4:fU R 1 lj=false):al R (gA x)=al (kP R) (dX x):=by
 match R,h0,h1,h2,h3,h4 with
 |.error y,_,_,_,_,_=>rfl
 |.ok s,h0,h1,h2,h3,h4 =>
  have q0:¬aJ s.here 4 ⟨#[59]⟩=true:=by rw[show aJ s.here 4 ⟨#[59]⟩=false from h0];decide
  have q2:¬aJ s.here 1 j6=true:=by rw[show aJ s.here 1 j6=false from h2];decide
  have q3:¬aJ s.here 1 hU=true:=by rw[show aJ s.here 1 hU=false from h3];decide
  have q4:¬aJ s.here 1 lj=true:=by rw[show aJ s.here 1 lj=false from h4];decide
  show gA x s=_
  unfold gA D8
  rw[if_neg q0,if_neg (fun q=>by rw[h1 q.1] at q;exact absurd q.2 (by decide)),if_neg q2,if_neg q3,if_neg q4]
  rfl
theorem ne_nil {p:ByteArray} (h:0<p.size):(p.toList==[])=false:=by
 have:p.toList.length=p.size:=by rw[ByteArray.toList_eq];exact rP p
 cases hp:p.toList with
 |nil=>rw[hp] at this;simp at this;omega
 |cons a l=>rfl
theorem Gu:∀(n:Nat) (acc:List UInt8) (s:ay) (ED:List UInt8) (s':ay),dz n acc s=.ok (ED,s')→acc.length≤ED.length:=by
 intro n
 induction n with
 |zero=>intro acc s ED s' h;unfold dz at h;cases h
 |succ n ih =>
  intro acc s ED s' h
  unfold dz at h
  split at h
  ·cases h
  ·cases h;exact zD _
  ·split at h
   ·cases h
   ·have:=ih _ _ _ _ h
    simp only[zK] at this
    omega
theorem M9 {s s1:ay}{x:ByteArray} (h:aR s=.ok (x,s1)):0<x.size:=by
 unfold aR at h
 split at h
 ·split at h
  ·rename_i h1 h2
   have hx:x=s.here.text:=by
    split at h
    ·simp only[Except.ok.injEq,Prod.mk.injEq] at h
     exact h.1.symm
    ·cases h
   unfold bI at h2
   split at h2
   ·exact absurd h2 (by decide)
   ·split at h2
    ·rename_i h3 h4
     unfold fw at h4
     have:=(of_decide_eq_true h4).1.1
     rw[hx]
     omega
    ·exact absurd h2 (by decide)
  ·cases h
 ·cases h
theorem Gs {s s':ay}{p:ByteArray} (h:ba false s=.ok (p,s')):(p.toList==[])=false:=by
 unfold ba at h
 rw[if_neg (by decide:¬false=true)] at h
 dsimp only at h
 unfold iu at h
 cases hn:aR s with
 |error y=>rw[hn] at h;cases h
 |ok q =>
  obtain ⟨x,s1⟩:=q
  rw[hn] at h
  dsimp only at h
  have hx:=M9 hn
  cases hl:dz (s1.ts.length+1) ((if false=true then [46] else [])++x.data.toList) s1 with
  |error y=>rw[hl] at h;cases h
  |ok q =>
   obtain ⟨acc,s2⟩:=q
   rw[hl] at h
   have h1:=Gu _ _ _ _ _ hl
   rw[if_neg (by decide:¬false=true),List.nil_append,rP] at h1
   unfold oH at h
   dsimp only at h
   split at h
   ·cases h
   ·simp only[Except.ok.injEq,Prod.mk.injEq] at h
    rw[←h.1]
    refine ne_nil ?_
    show 0<acc.toArray.size
    rw[List.size_toArray]
    omega
end Go.Proofs.YtjophoclfccmcaaGreatDoor

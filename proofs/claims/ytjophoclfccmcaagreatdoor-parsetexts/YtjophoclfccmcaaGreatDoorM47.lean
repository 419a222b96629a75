import Derived.Test.YtjophoclfccmcaaGreatDoorPfY
set_option maxHeartbeats 4000000
set_option maxRecDepth 100000
namespace Go.Proofs.YtjophoclfccmcaaGreatDoor
open Go.RowKit
noncomputable def nv (mf:ax→Except (Int×Int) (Ms×ax)) (x:Mp) (s:ax):Except (Int×Int) (Ms×ax):=bQ (od (bV (mw mf) E0) x s) tD
def lE (s:ax) (pt:Int):PX:=if s.op=32 then .error (53,pt) else .ok s
def Qr:PX→PX
 |.ok s=>.ok s.CJ
 |.error y=>.error y
def I8:PX→PX
 |.ok s=>.ok s.Es
 |.error y=>.error y
theorem Zr.Qr {lo b:Nat}{W:World}{R:PX} (h:Zr lo W b R):Zr lo W b (Qr R):=by
 match R,h with
 |.error y,h=>exact h
 |.ok s,⟨h1,h2⟩=>exact ⟨h1,⟨h2.bg,h2.en,h2.sm,h2.dc,h2.len⟩⟩
theorem Zr.I8 {lo b:Nat}{W:World}{R:PX} (h:Zr lo W b R):Zr lo W b (I8 R):=by
 match R,h with
 |.error y,h=>exact h
 |.ok s,⟨h1,h2⟩=>exact ⟨h1,⟨h2.bg,h2.en,h2.sm,h2.dc,h2.len⟩⟩
theorem Gd.CJ {s:ax} (h:Gd s):Gd s.CJ:=⟨h.bg,h.en,h.sm,h.dc,h.len⟩
theorem M9 {mf:ax→Except (Int×Int) (Ms×ax)} (IG:∀s m s',mf s=.ok (m,s')→Gt s s') (x:Mp) (s:ax) (x':Mp) (s':ax) (h:bV (mw mf) E0 x s=.ok (x',s')):Gt s s'∧(s.en.kind=5→0<s.ts.length):=gZ (yA _ IG) (fun _ _ _ _ h=>jS h) h
theorem Q0 {s:ax} (hg:Gd s) (x:ByteArray):aT (au x s.CJ)=Qr (aT (au x s)):=by
 rw[gR hg.bg,gR hg.CJ.bg]
 show aT (if aH s.here 4 x=true then .ok ((),s.CJ.nx) else .error (bS s))=_
 by_cases h:aH s.here 4 x=true
 ·rw[if_pos h,if_pos h];rfl
 ·rw[if_neg h,if_neg h];rfl
theorem Q7 {mf:ax→Except (Int×Int) (Ms×ax)} (IG:∀s m s',mf s=.ok (m,s')→Gt s s') {nm:ByteArray}{s:ax} (hg:Gd s):lO mf nm s=al (Qr (aT (au ⟨#[123]⟩ s))) (nv mf ⟨nm,[],[],[],[],[],[]⟩):=by
 unfold lO
 rw[GW (M9 IG) hg.CJ,←Q0 hg,fh]
 cases h:au ⟨#[123]⟩ s.CJ with
 |error y=>rfl
 |ok p =>
  rw[aK,aK]
  unfold nv
  cases od (bV (mw mf) E0) ⟨nm,[],[],[],[],[],[]⟩ p.2 with
  |error y=>rfl
  |ok q=>rfl
theorem M6 {n:Nat}{s0:ax}{k pt:Int}{tt nm:ByteArray} (hg:Gd s0) (hp:EN (.ok s0) ⟨k,pt,tt⟩) (hk:aH s0.here 1 ib=true)
  (cO:lp (aT (al (aT (al (aT (al (lE s0 pt) (aN pt))) (cn ib))) aQ)))
  (hv:∀a s,al (aT (al (aT (al (lE s0 pt) (aN pt))) (cn ib))) aQ=.ok (a,s)→Value.string nm=.string a) :
  bk (n+1) s0=al (Qr (aT (al (aT (al (aT (al (aT (al (lE s0 pt) (aN pt))) (cn ib))) aQ)) (au ⟨#[123]⟩)))) (nv (bk n) ⟨nm,[],[],[],[],[],[]⟩):=by
 have ht:pt=s0.here.spot:=hp.2.1
 subst ht
 have hb:=nk hk
 rw[bk]
 by_cases LG:s0.op=32
 ·rw[if_pos LG]
  unfold lE
  rw[if_pos LG]
  rfl
 ·rw[if_neg LG]
  have hn:lE s0 s0.here.spot=.ok s0:=by unfold lE;rw[if_neg LG]
  rw[hn] at cO hv ⊢
  rw[gQ hg,←hb]
  rw[show al (.ok s0) (aN s0.here.spot)=aN s0.here.spot s0 from rfl] at cO hv ⊢
  cases h1:aN s0.here.spot s0 with
  |error y=>rfl
  |ok p1 =>
   rw[h1] at cO hv
   rw[show al (aT (.ok p1)) (cn ib)=cn ib p1.2 from rfl] at cO hv ⊢
   rw[aK]
   cases h2:cn ib p1.2 with
   |error y=>rfl
   |ok p2 =>
    rw[h2] at cO hv
    rw[show al (aT (.ok p2)) aQ=aQ p2.2 from rfl] at cO hv ⊢
    obtain ⟨a2,s2⟩:=p2
    dsimp only at cO hv ⊢
    cases h3:aQ s2 with
    |error y=>rfl
    |ok p3 =>
     obtain ⟨a3,s3⟩:=p3
     have e3:nm=a3:=by simpa using hv a3 s3 h3
     rw[h3] at cO
     have rU:Gd s3:=cO
     subst e3
     exact Q7 (kV n) rU
theorem Q5 {s0 s4:ax}{pt:Int} (hg:Gd s0) (h:Qr (aT (al (aT (al (aT (al (aT (al (lE s0 pt) (aN pt))) (cn ib))) aQ)) (au ⟨#[123]⟩)))=.ok s4):s4.ts.length<s0.ts.length∧s4.op=s0.op+1∧s0.op≠32:=by
 unfold lE at h
 by_cases LG:s0.op=32
 ·rw[if_pos LG] at h;cases h
 rw[if_neg LG] at h
 rw[show al (.ok s0) (aN pt)=aN pt s0 from rfl] at h
 cases h1:aN pt s0 with
 |error y=>rw[h1] at h;cases h
 |ok p1 =>
  have e1:p1.2.ts=s0.ts∧p1.2.en=s0.en∧p1.2.op=s0.op:=by unfold aN at h1;split at h1;cases h1;cases h1;exact ⟨rfl,rfl,rfl⟩
  rw[h1,show al (aT (.ok p1)) (cn ib)=cn ib p1.2 from rfl] at h
  cases h2:cn ib p1.2 with
  |error y=>rw[h2] at h;cases h
  |ok p2 =>
   have e2:p2.2.ts=p1.2.ts.tail∧p2.2.en=p1.2.en∧p2.2.op=p1.2.op:=by unfold cn at h2;split at h2;cases h2;exact ⟨rfl,rfl,rfl⟩;cases h2
   rw[h2,show al (aT (.ok p2)) aQ=aQ p2.2 from rfl] at h
   cases h3:aQ p2.2 with
   |error y=>rw[h3] at h;cases h
   |ok p3 =>
    obtain ⟨a3,s3⟩:=p3
    have e3:=dS (gz h3) (kS h3 (by rw[e2.2.1,e1.2.1];exact hg.en))
    have o3:=(gz h3).gu.op
    rw[h3,show al (aT (.ok (a3,s3))) (au ⟨#[123]⟩)=au ⟨#[123]⟩ s3 from rfl] at h
    cases h4:au ⟨#[123]⟩ s3 with
    |error y=>rw[h4] at h;cases h
    |ok p4 =>
     obtain ⟨a4,s5⟩:=p4
     have e4:=(bB h4).len
     have o4:=(bB h4).op
     rw[h4] at h
     obtain rfl:s5.CJ=s4:=by simpa[aT,Qr] using h
     have e5:p2.2.ts.length≤s0.ts.length:=by rw[e2.1,e1.1,List.length_tail];omega
     refine ⟨?_,?_,LG⟩
     ·show s5.ts.length<_
      omega
     ·show s5.op+1=_
      rw[o4,o3,e2.2.2,e1.2.2]
theorem Q4 {mf:ax→Except (Int×Int) (Ms×ax)} (IG:∀s m s',mf s=.ok (m,s')→Gt s s') {x:Mp}{s:ax}{s':ax} (hg:Gd s) (h:aT (al (.ok s) (fun s=>bQ (dp my s) (fun _ s1=>nF mf x s1)))=.ok s'):s'.ts.length<s.ts.length∧s'.op=s.op:=by
 rw[show al (.ok s) (fun s=>bQ (dp my s) (fun _ s1=>nF mf x s1))=bV (mw mf) E0 x s from (By hg).symm] at h
 cases hr:bV (mw mf) E0 x s with
 |error y=>rw[hr] at h;cases h
 |ok p =>
  obtain ⟨a,s1⟩:=p
  rw[hr] at h
  obtain rfl:s1=s':=by simpa[aT] using h
  obtain ⟨h1,h2⟩:=M9 IG _ _ _ _ hr
  exact ⟨dS h1 (h2 hg.en),h1.gu.op⟩
theorem M8 {mf:ax→Except (Int×Int) (Ms×ax)} (IG:∀s m s',mf s=.ok (m,s')→Gt s s') {x x':Mp}{s:ax} (hg:Gd s) (hq:¬aH s.here 4 ⟨#[125]⟩=true)
  (hv:∀a s',al (.ok s) (fun s=>bQ (dp my s) (fun _ s1=>nF mf x s1))=.ok (a,s')→a=x'):nv mf x s=al (aT (al (.ok s) (fun s=>bQ (dp my s) (fun _ s1=>nF mf x s1)))) (nv mf x'):=by
 rw[show al (.ok s) (fun s=>bQ (dp my s) (fun _ s1=>nF mf x s1))=bV (mw mf) E0 x s from (By hg).symm] at hv ⊢
 unfold nv
 rw[sC (M9 IG) hg hq]
 cases hr:bV (mw mf) E0 x s with
 |error y=>rfl
 |ok p =>
  obtain ⟨a,s'⟩:=p
  obtain rfl:=hv a s' hr
  rfl
theorem UM {mf:ax→Except (Int×Int) (Ms×ax)}{x:Mp}{R:PX}{F0:Except (Int×Int) (Ms×ax)} (hg:lp R) (hq:∀s,R=.ok s→aH s.here 4 ⟨#[125]⟩=true) (hf:F0=al R (nv mf x)):I8 (aT (al R (au ⟨#[125]⟩)))=aT F0∧∀a s,F0=.ok (a,s)→a=x.done:=by
 subst hf
 match R,hg,hq with
 |.error y,_,_=>exact ⟨rfl,fun _ _ e=>(by cases e)⟩
 |.ok s,hg,hq =>
  have h1:=hq s rfl
  show _=aT (nv mf x s)∧∀a s',nv mf x s=.ok (a,s')→_
  unfold nv tD
  rw[yE h1,aK]
  dsimp only
  rw[fZ (show s.bg=false from hg.bg),show al (.ok s) (au ⟨#[125]⟩)=au ⟨#[125]⟩ s from rfl,gR (show s.bg=false from hg.bg),if_pos h1]
  exact ⟨rfl,fun a s' e=>by cases e;rfl⟩
structure TS (W:World) (lo b ri ti mi n o:Nat) (F0:Except (Int×Int) (Ms×ax)) (x:Mp) (v:MV) (R:PX) (w:World):Prop where
 g:W.grownBy w (some b)
 z:Zr lo w b R
 r:w.heap[ri]?=some (.cells E7 49 (0,0))
 t:∃(k p:Int) (tx:ByteArray),w.heap[ti]?=some (.cells #[.int .i64 k,.int .i64 p,.string tx] 38 (0,0))
 m:w.heap[mi]?=some (.cells (v.arr x) 49 (0,0))
 s:nI W.heap.size [mi,ti,ri] w x v
 f:F0=al R (nv (bk n) x)
 l:pO 1000000000 (bJ x) R
 o:∀s,R=.ok s→s.op=o∧s.ts.length≤n
theorem TS.kept {W w w':World}{lo b ri ti mi n o:Nat}{F0:Except (Int×Int) (Ms×ax)}{x:Mp}{v:MV}{R:PX} (h:TS W lo b ri ti mi n o F0 x v R w) (hb:b<W.heap.size∧b<ri∧b<ti∧b<mi) (hg:w.grownBy w' (some b)) (hz:Zr lo w' b R):TS W lo b ri ti mi n o F0 x v R w':=by
 obtain ⟨k,p,tx,ht⟩:=h.t
 exact ⟨h.g.trans hg,hz,aw hg h.r (by omega),⟨k,p,tx,aw hg ht (by omega)⟩,aw hg h.m (by omega),h.s.kept hg (.inl hb.1),h.f,h.l,h.o⟩
end Go.Proofs.YtjophoclfccmcaaGreatDoor
namespace Go.Proofs.YtjophoclfccmcaaGreatDoor
open Go.RowKit
attribute [local go_sem ↓] Go.wp_at_zero Go.wp_at_succ
theorem TS.Ni {W w w':World}{lo b ri ti mi n o:Nat}{F0:Except (Int×Int) (Ms×ax)}{x:Mp}{v:MV}{R:PX} (h:TS W lo b ri ti mi n o F0 x v R w) (hb:b<W.heap.size∧b<ri∧b<ti∧b<mi) (hF:Fm b (v.ss x) w w'):W.grownBy w' (some b)∧w'.heap[ri]?=some (.cells E7 49 (0,0))∧(∃(k p:Int) (tx:ByteArray),w'.heap[ti]?=some (.cells #[.int .i64 k,.int .i64 p,.string tx] 38 (0,0)))∧w'.heap[mi]?=some (.cells (v.arr x) 49 (0,0)):=by
 obtain ⟨k,p,tx,ht⟩:=h.t
 have q:∀(g:Nat) (ob:Obj),g ∈ [mi,ti,ri]→b<g→w.heap[g]?=some ob→w'.heap[g]?=some ob:=fun g ob hm hg hq=>(hF.block g (gJ hq) (by omega) (fun i sl hi hk=>h.s.sl.q i sl g hi hk hm)).trans hq
 refine ⟨⟨hF.os.trans h.g.os,hF.tape.trans h.g.tape,hF.output.trans h.g.output,Nat.le_trans h.g.size hF.size,fun k hk eb=>?_⟩,q ri _ (by simp) hb.2.1 h.r,⟨k,p,tx,q ti _ (by simp) hb.2.2.1 ht⟩,q mi _ (by simp) hb.2.2.2 h.m⟩
 refine (hF.block k (Nat.lt_of_lt_of_le hk h.g.size) (by simpa using eb) (fun i sl hi hkk=>?_)).trans (h.g.block k hk eb)
 have:=((h.s.sl.own i sl hi).lt k hkk).1
 omega
def Wj (n:Nat):Prop:=∀(W:World) (lo b:Nat) (s0:ax),s0.ts.length≤n→Zr lo W b (.ok s0)→aH s0.here 1 ib=true→s0.op≤32→Calls Tryz.prog 40 #[.pointer (some ⟨b,0,none⟩),.int .i64 (s0.op:Int)] W (Wi lo b W (bk n s0))
theorem zW {n:Nat} (ih:Wj n):Wj (n+1):=by
 intro W lo b s0 hn h hk ho
 have cC:=h.low
 have lZ:Hid (Gd s0):=h.2
 have HK:=ab hk
 have HIH:=ab ih
 have HN:=ab hn
 have HOP:=ab ho
 have HZ:=ab h
 have HG:Hid (W.grownBy W (some b)):=zI _ _
 obtain ⟨op,jX⟩:∃op:Int,op=(s0.op:Int):=⟨_,rfl⟩
 rw[←jX]
 have HO:=ab jX
 clear h hk ih hn ho jX
 have Va:b<W.heap.size:=by have:=(aa HG).size;omega
 have rl:W.heap.size≤W.heap.size:=by have:=(aa HG).size;omega
 have aW:=ab (aF (W) (.cells #[.string ⟨#[]⟩,.slice none 0 0,.slice none 0 0,.slice none 0 0,.slice none 0 0,.slice none 0 0,.slice none 0 0] 49))
 replace HZ:=ab ((aa HZ).up ((zE _ _).alloc (zD _) (.cells #[.string ⟨#[]⟩,.slice none 0 0,.slice none 0 0,.slice none 0 0,.slice none 0 0,.slice none 0 0,.slice none 0 0] 49)))
 replace HG:=ab ((aa HG).trans (aM ((zE _ _).alloc (zD _) (.cells #[.string ⟨#[]⟩,.slice none 0 0,.slice none 0 0,.slice none 0 0,.slice none 0 0,.slice none 0 0,.slice none 0 0] 49)) (some b)))
 go_enter Tryz.func40,Tryz.ntmps40
 have qv:=seen (aa aW)
 have qi:=frzn (aa aW)
 go_wp2_with fail
 refine (gm (aa HZ)).mono ?_
 rintro e w1 ⟨⟨kt,pt,tt⟩,rfl,hb,hp⟩
 clear qv qi
 have po:=ab hp
 replace HZ:=ab ((aa HZ).up hb)
 have hg:=aM hb (some b)
 replace aW:=ab (aw hg (aa aW) (by omega))
 replace HG:=ab ((aa HG).trans hg)
 clear hb hp hg
 unfold Tk.val
 have NN:b<w1.heap.size:=by have:=(aa HG).size;omega
 have Ry:W.heap.size≤w1.heap.size:=by have:=(aa HG).size;omega
 have D4:W.heap.size<w1.heap.size:=by have h:=(zA (aa aW)).1;exact h
 replace aW:=ab (bL (aa aW) (.cells #[.int .i64 kt,.int .i64 pt,.string tt] 38))
 have aZ:=ab (aF (w1) (.cells #[.int .i64 kt,.int .i64 pt,.string tt] 38))
 replace HZ:=ab ((aa HZ).up ((zE _ _).alloc (zD _) (.cells #[.int .i64 kt,.int .i64 pt,.string tt] 38)))
 replace HG:=ab ((aa HG).trans (aM ((zE _ _).alloc (zD _) (.cells #[.int .i64 kt,.int .i64 pt,.string tt] 38)) (some b)))
 have qu:=seen (aa aW)
 have qh:=frzn (aa aW)
 have lV:=seen (aa aZ)
 have lR:=frzn (aa aZ)
 go_upto_if 10 with fail
 go_cut [] (fun wx=>Hid (World.grownBy (w1.alloc (.cells #[.int .i64 kt,.int .i64 pt,.string tt] 38)) wx (some b)∧Zr lo wx b (lE s0 pt)))
 case first =>
  by_cases h1:s0.op=32
  ·have e1:(32:Int)≤op:=by have:=aa HO;omega
   have H1:=ab h1
   clear h1
   go_wp2_with fail
   refine (gX (aa HZ) 53 pt (by decide)).mono ?_
   rintro e w0 ⟨rfl,hg,hz⟩
   have HH:Hid (World.grownBy (w1.alloc (.cells #[.int .i64 kt,.int .i64 pt,.string tt] 38)) w0 (some b)∧Zr lo w0 b (lE s0 pt)):=⟨hg,by unfold lE;rw[if_pos (aa H1)];exact hz⟩
   clear hg hz
   go_wp2
   go_meet
   exact HH
  ·have e1:¬(32:Int)≤op:=by have:=aa HO;have:=aa HOP;omega
   have HH:Hid (World.grownBy (w1.alloc (.cells #[.int .i64 kt,.int .i64 pt,.string tt] 38)) (w1.alloc (.cells #[.int .i64 kt,.int .i64 pt,.string tt] 38)) (some b)∧Zr lo (w1.alloc (.cells #[.int .i64 kt,.int .i64 pt,.string tt] 38)) b (lE s0 pt)):=⟨zI _ _,by unfold lE;rw[if_neg h1];exact aa HZ⟩
   clear h1
   go_wp2
   go_meet
   exact HH
 case rest =>
 obtain ⟨w2,fV⟩:∃x,x=wc:=⟨_,rfl⟩
 subst fV
 clear qu qh lV lR
 obtain ⟨hg,hz⟩:=aa hcut
 replace HZ:=ab hz
 replace aW:=ab (aw hg (aa aW) (by omega))
 replace aZ:=ab (aw hg (aa aZ) (by omega))
 replace HG:=ab ((aa HG).trans hg)
 clear hg hz hcut
 have rI:=seen (aa aW)
 have ry:=frzn (aa aW)
 have oF:=seen (aa aZ)
 have ou:=frzn (aa aZ)
 go_wp2_with fail
 refine (eB (aa HZ) ⟨kt,pt,tt⟩).mono ?_
 rintro e w3 ⟨hg,hz,v3,rfl,nc,lu⟩
 clear rI ry oF ou
 replace HZ:=ab hz
 replace aW:=ab (aw hg (aa aW) (by omega))
 replace aZ:=ab (aw hg (aa aZ) (by omega))
 replace HG:=ab ((aa HG).trans hg)
 clear hg hz
 obtain rfl:=nc
 clear lu
 have oH:=seen (aa aW)
 have ox:=frzn (aa aW)
 have oE:=seen (aa aZ)
 have ot:=frzn (aa aZ)
 go_wp2_with fail
 refine (oL (aa HZ) ib).mono ?_
 rintro e w4 ⟨hg,hz,v4,rfl,p9,qE⟩
 clear oH ox oE ot
 replace HZ:=ab hz
 replace aW:=ab (aw hg (aa aW) (by omega))
 replace aZ:=ab (aw hg (aa aZ) (by omega))
 replace HG:=ab ((aa HG).trans hg)
 clear hg hz
 obtain rfl:=p9
 clear qE
 have oG:=seen (aa aW)
 have ow:=frzn (aa aW)
 have oD:=seen (aa aZ)
 have oq:=frzn (aa aZ)
 go_wp2_with fail
 refine (lA (aa HZ)).mono ?_
 rintro e w5 ⟨hg,hz,v5,rfl,BZ,nA⟩
 clear oG ow oD oq
 replace HZ:=ab hz
 replace aW:=ab (aw hg (aa aW) (by omega))
 replace aZ:=ab (aw hg (aa aZ) (by omega))
 replace HG:=ab ((aa HG).trans hg)
 clear hg hz
 obtain ⟨nm,rfl,jo⟩:=BZ
 have HS:=ab (M6 (n:=n) (aa lZ) (aa po) (aa HK) (aa HZ).2 nA)
 clear nA jo po HK
 have U':b<w5.heap.size:=by have:=(aa HG).size;omega
 have NP:W.heap.size≤w5.heap.size:=by have:=(aa HG).size;omega
 have KB:W.heap.size<w5.heap.size:=by have h:=(zA (aa aW)).1;exact h
 have Gb:w1.heap.size<w5.heap.size:=by have h:=(zA (aa aZ)).1;exact h
 replace aW:=ab (bL (aa aW) (.cells #[.string nm,.slice none 0 0,.slice none 0 0,.slice none 0 0,.slice none 0 0,.slice none 0 0,.slice none 0 0] 49))
 replace aZ:=ab (bL (aa aZ) (.cells #[.string nm,.slice none 0 0,.slice none 0 0,.slice none 0 0,.slice none 0 0,.slice none 0 0,.slice none 0 0] 49))
 have bH:=ab (aF (w5) (.cells #[.string nm,.slice none 0 0,.slice none 0 0,.slice none 0 0,.slice none 0 0,.slice none 0 0,.slice none 0 0] 49))
 replace HZ:=ab ((aa HZ).up ((zE _ _).alloc (zD _) (.cells #[.string nm,.slice none 0 0,.slice none 0 0,.slice none 0 0,.slice none 0 0,.slice none 0 0,.slice none 0 0] 49)))
 replace HG:=ab ((aa HG).trans (aM ((zE _ _).alloc (zD _) (.cells #[.string nm,.slice none 0 0,.slice none 0 0,.slice none 0 0,.slice none 0 0,.slice none 0 0,.slice none 0 0] 49)) (some b)))
 have qt:=seen (aa aW)
 have qd:=frzn (aa aW)
 have qs:=seen (aa aZ)
 have qc:=frzn (aa aZ)
 have sU:=seen (aa bH)
 have sQ:=frzn (aa bH)
 go_wp2_with fail
 refine (eZ (aa HZ) ⟨#[123]⟩).mono ?_
 rintro e w6 ⟨hg,hz,v6,rfl,Vi,hv6⟩
 clear qt qd qs qc sU sQ
 replace HZ:=ab hz
 replace aW:=ab (aw hg (aa aW) (by omega))
 replace aZ:=ab (aw hg (aa aZ) (by omega))
 replace bH:=ab (aw hg (aa bH) (by omega))
 replace HG:=ab ((aa HG).trans hg)
 clear hg hz
 obtain rfl:=Vi
 clear hv6
 have Ub:=ab (fun s4=>Q5 (s4:=s4) (pt:=pt) (aa lZ))
 have TY:=ab (aa HZ).Qr
 obtain ⟨R4,IN⟩:∃R4,R4=Qr (aT (al (aT (al (aT (al (aT (al (lE s0 pt) (aN pt))) (cn ib))) aQ)) (au ⟨#[123]⟩))):=⟨_,rfl⟩
 rw[←IN] at TY HS Ub
 obtain ⟨F0,sM⟩:∃F0,F0=bk (n+1) s0:=⟨_,rfl⟩
 rw[←sM] at HS
 have Fe:=ab sM
 obtain ⟨mi,IF⟩:∃i,i=w5.heap.size:=⟨_,rfl⟩
 obtain ⟨ti,IC⟩:∃i,i=w1.heap.size:=⟨_,rfl⟩
 rw[←IF] at bH U' NP KB Gb ⊢
 rw[←IC] at aZ NN Ry D4 Gb ⊢
 clear IN sM IF IC HZ
 have P1:nI W.heap.size [mi,ti,W.heap.size] w6 ⟨nm,[],[],[],[],[],[]⟩ ⟨(none,0),(none,0),(none,0),(none,0),(none,0),(none,0),[],[]⟩:=by
  refine ⟨⟨fun i sl hs=>?_,fun i j a c hij ha hc k hk=>?_,fun i sl k hs hk=>?_,fun k hk=>?_⟩,.nil,.nil⟩
  ·match i,hs with
   |0,hs=>cases hs;exact World.ownsRow_nil _ _ _ _
   |1,hs=>cases hs;exact World.ownsRow_nil _ _ _ _
   |2,hs=>cases hs;exact World.ownsRow_nil _ _ _ _
   |3,hs=>cases hs;exact World.ownsRow_nil _ _ _ _
   |4,hs=>cases hs;exact World.ownsRow_nil _ _ _ _
   |5,hs=>cases hs;exact World.ownsRow_nil _ _ _ _
   |i+6,hs=>cases hs
  ·match i,ha with
   |0,ha=>cases ha;cases hk
   |1,ha=>cases ha;cases hk
   |2,ha=>cases ha;cases hk
   |3,ha=>cases ha;cases hk
   |4,ha=>cases ha;cases hk
   |5,ha=>cases ha;cases hk
   |i+6,ha=>cases ha
  ·match i,hs with
   |0,hs=>cases hs;cases hk
   |1,hs=>cases hs;cases hk
   |2,hs=>cases hs;cases hk
   |3,hs=>cases hs;cases hk
   |4,hs=>cases hs;cases hk
   |5,hs=>cases hs;cases hk
   |i+6,hs=>cases hs
  ·have e1:=gJ (aa bH)
   have e2:=gJ (aa aZ)
   have e3:=gJ (aa aW)
   simp only[List.mem_cons,List.not_mem_nil,or_false] at hk
   rcases hk with rfl|rfl|rfl
   ·exact e1
   ·exact e2
   ·exact e3
 have HE:Hid (TS W lo b W.heap.size ti mi n (s0.op+1) F0 ⟨nm,[],[],[],[],[],[]⟩ ⟨(none,0),(none,0),(none,0),(none,0),(none,0),(none,0),[],[]⟩ R4 w6):=⟨aa HG,aa TY,aa aW,⟨_,_,_,aa aZ⟩,aa bH,P1,aa HS,⟨by unfold bJ;simp,fun s e=>by have:=(aa TY).2;rw[e] at this;have:=Gd.len this;unfold bJ;simp;omega⟩,fun s e=>by have h1:=aa Ub s e;have h2:=aa HN;exact ⟨h1.2.1,by omega⟩⟩
 have Wz:Hid (∀s,R4=.ok s→s0.op≠32):=fun s e=>(aa Ub s e).2.2
 have eQ:b<W.heap.size∧b<W.heap.size∧b<ti∧b<mi:=⟨by omega,by omega,by omega,by omega⟩
 clear P1 HG TY aW aZ bH HS Ub
 go_wp2
 go_loopg [] (mR R4) (fun gk wr=>∃(x:Mp) (v:MV) (Rk:PX),gk=mR Rk∧Hid ((∀s,Rk=.ok s→s0.op≠32)∧TS W lo b W.heap.size ti mi n (s0.op+1) F0 x v Rk wr))
 case atStart=>exact ⟨_,_,R4,rfl,aa Wz,aa HE⟩
 case round =>
  clear HE Wz
  obtain ⟨x,v,Rk,dY,WJ⟩:=hrel
  have Wz:=ab (aa WJ).1
  have Aw:=ab (aa WJ).2
  have zz:=ab dY
  clear dY WJ
  obtain ⟨er,Sz,her⟩:=(aa Aw).z.err
  go_upto_region 8 with fail
  go_cut [34] from 25 to 38 (fun v34 wx=>v34=.bool (MW Rk&&!(gd Rk 4 ⟨#[125]⟩))∧Hid (Below wr.heap.size wr wx))
  case first =>
   cases Rk with
   |error y =>
    replace her:(er==0)=false:=her
    go_wp2
    go_meet
    exact ⟨rfl,zE _ _⟩
   |ok s =>
    replace her:(er==0)=true:=her
    go_wp2_with fail
    refine (iw (aa Aw).z 4 (by decide) ⟨#[125]⟩).mono ?_
    rintro e w0 ⟨rfl,hb⟩
    have HB:=ab hb
    clear hb
    go_wp2
    go_meet
    exact ⟨rfl,HB⟩
  case rest =>
  obtain ⟨zY,fV⟩:∃x,x=wc:=⟨_,rfl⟩
  subst fV
  obtain ⟨rfl,hb⟩:=hcut
  have jY:=ab ((aa Aw).kept eQ (aM (aa hb) (some b)) ((aa Aw).z.up (aa hb)))
  clear hb Sz her Aw
  obtain ⟨q,hq⟩:∃q,(MW Rk&&!(gd Rk 4 ⟨#[125]⟩))=q:=⟨_,rfl⟩
  rw[hq]
  have jw:=ab hq
  clear hq
  cases q with
  |true =>
   obtain ⟨s,rfl,Tp⟩:∃s,Rk=.ok s∧¬aH s.here 4 ⟨#[125]⟩=true:=by
    have hq:=aa jw
    match Rk,hq with
    |.error y,hq=>cases hq
    |.ok s,hq =>
     refine ⟨s,rfl,?_⟩
     have:(true&&!(aH s.here 4 ⟨#[125]⟩))=true:=hq
     intro h1
     rw[h1] at this
     cases this
   have zV:Hid (Gd s):=(aa jY).z.2
   have HNS:=ab Tp
   have HOS:=ab ((aa jY).o s rfl)
   have hm:zY.heap[mi]?=some (.cells (v.arr x) 49 (0,0)):=(aa jY).m
   have HCT:=ab (Jz (W:=zY) (lo:=lo) (b:=b) (l:=W.heap.size) (L:=[mi,ti,W.heap.size]) (s0:=s) (x:=x) (v:=v) (op:=op) (mf:=bk n) (kV n) (aa jY).z ⟨cC.2,(aa jY).g.size⟩ (aa jY).s (aa jY).l (fun hq w hz=>by
    have h1:=aa HOS
    have h2:=aa Wz s rfl
    have h3:=aa HOP
    have h4:wrap64 (op+1)=((s.op:Nat):Int):=by rw[aa HO,h1.1];exact eN ⟨by omega,by omega⟩
    rw[h4]
    exact aa HIH w lo b s h1.2 hz hq (by omega)))
   obtain ⟨xn,xf,xo,xm,xe,xr,xg⟩:=x
   obtain ⟨⟨fa,fc⟩,⟨oa,oc⟩,⟨ma,mc⟩,⟨ea,ec⟩,⟨ra,rc⟩,⟨ga,gc⟩,cm,ce⟩:=v
   unfold MV.arr at hm HCT
   simp only at hm HCT
   obtain ⟨⟨TN,XF,TM,XE,cm4,cm5,cm6⟩,RQ⟩:=cL hm
   clear RQ hm Tp jw
   go_wp2_with fail
   refine (aa HCT).mono ?_
   rintro e JG ⟨hF,hz,⟨yn,yf,yo,ym,ye,yr,yg⟩,⟨⟨f1,f2⟩,⟨o1,o2⟩,⟨m1,m2⟩,⟨e1,e2⟩,⟨r1,r2⟩,⟨g1,g2⟩,Qs,Qt⟩,rfl,hM,hO,P5,dC⟩
   obtain ⟨lv,AW,E6,CL⟩:=(aa jY).Ni eQ hF
   have IF:W.heap.size≤mi:=NP
   obtain ⟨t1,t2⟩:=dM (show JG.heap[mi]?=some (.cells #[.string xn,.slice fa xf.length fc,.slice oa xo.length oc,.slice ma xm.length mc,.slice ea xe.length ec,.slice ra xr.length rc,.slice ga xg.length gc] 49 (0,0)) from CL) (.string yn) (.slice f1 yf.length f2) (.slice o1 yo.length o2) (.slice m1 ym.length m2) (.slice e1 ye.length e2) (.slice r1 yr.length r2) (.slice g1 yg.length g2)
   obtain ⟨⟨cn0,cn1,cn2,cn3,cn4,cn5,cn6⟩,rV⟩:=cL (show JG.heap[mi]?=some (.cells #[.string xn,.slice fa xf.length fc,.slice oa xo.length oc,.slice ma xm.length mc,.slice ea xe.length ec,.slice ra xr.length rc,.slice ga xg.length gc] 49 (0,0)) from CL)
   have fn0:=rV 0
   have fn1:=rV 1
   have fn2:=rV 2
   have fn3:=rV 3
   have fn4:=rV 4
   have fn5:=rV 5
   have fn6:=rV 6
   have o8:F0=al (aT (al (.ok s) (fun s=>bQ (dp my s) (fun _ s1=>nF (bk n) ⟨xn,xf,xo,xm,xe,xr,xg⟩ s1)))) (nv (bk n) ⟨yn,yf,yo,ym,ye,yr,yg⟩):=by
    rw[←M8 (kV n) (aa zV) (aa HNS) dC]
    exact (aa jY).f
   obtain ⟨kk,pp,tx2,htt⟩:=E6
   have tS:=ab (fun s'=>Q4 (s':=s') (kV n) (x:=⟨xn,xf,xo,xm,xe,xr,xg⟩) (aa zV))
   obtain ⟨R6,Xs⟩:∃R6,R6=aT (al (.ok s) (fun s=>bQ (dp my s) (fun _ s1=>nF (bk n) ⟨xn,xf,xo,xm,xe,xr,xg⟩ s1))):=⟨_,rfl⟩
   rw[←Xs] at o8 tS hz P5
   have lM:Hid (TS W lo b W.heap.size ti mi n (s0.op+1) F0 ⟨yn,yf,yo,ym,ye,yr,yg⟩ ⟨(f1,f2),(o1,o2),(m1,m2),(e1,e2),(r1,r2),(g1,g2),Qs,Qt⟩ R6 _):=⟨cy lv t2 IF,hz.gA t2 (by omega),aw t2 AW (by omega),⟨kk,pp,tx2,aw t2 htt (by omega)⟩,t1,hM.kept t2 (.inr (by simp)),o8,P5,fun s' e=>by have h1:=aa tS s' e;have h2:=aa HOS;exact ⟨h1.2.trans h2.1,by omega⟩⟩
   have acq:Hid (∀s',R6=.ok s'→s0.op≠32):=fun _ _=>aa Wz s rfl
   have HM:Hid (mR R6<gk):=by
    have h1:=aa zz
    show _<gk
    rw[h1]
    cases hr:R6 with
    |error y=>show 0<s.ts.length+1;omega
    |ok s'=>have:=(aa tS s' hr).1;show s'.ts.length+1<s.ts.length+1;omega
   clear hF hz hM hO P5 dC lv AW htt CL t1 t2 o8 Xs tS rV HCT jY TN XF TM XE cm4 cm5 cm6
   unfold MV.arr
   go_wp2
   go_roundg (mR R6)
   case measure=>exact aa HM
   case rel=>exact ⟨_,_,R6,rfl,aa acq,aa lM⟩
  |false =>
   have hq:∀s,Rk=.ok s→aH s.here 4 ⟨#[125]⟩=true:=by
    intro s e
    have hq:=aa jw
    rw[e] at hq
    have:(true&&!(aH s.here 4 ⟨#[125]⟩))=false:=hq
    cases h1:aH s.here 4 ⟨#[125]⟩ with
    |true=>rfl
    |false=>rw[h1] at this;cases this
   have WE:=ab (UM (aa jY).z.2 hq (aa jY).f)
   clear hq jw
   go_wp2_with fail
   refine (eZ (aa jY).z ⟨#[125]⟩).mono ?_
   rintro e JG ⟨hg,hz,v0,rfl,mA,-⟩
   obtain rfl:=mA
   have jg:Zr lo JG b (aT F0):=by
    rw[←(aa WE).1]
    exact hz.I8
   have lv:=(aa jY).g.trans hg
   have CL:JG.heap[mi]?=some (.cells (v.arr x) 49 (0,0)):=aw hg (aa jY).m (by omega)
   have AW:JG.heap[W.heap.size]?=some (.cells E7 49 (0,0)):=aw hg (aa jY).r (by omega)
   have NV:=(aa jY).s.kept hg (.inl eQ.1)
   obtain ⟨xn,xf,xo,xm,xe,xr,xg⟩:=x
   obtain ⟨⟨fa,fc⟩,⟨oa,oc⟩,⟨ma,mc⟩,⟨ea,ec⟩,⟨ra,rc⟩,⟨ga,gc⟩,cm,ce⟩:=v
   unfold MV.arr at CL
   simp only at CL
   unfold E7 at AW
   obtain ⟨⟨TN,XF,TM,XE,cm4,cm5,cm6⟩,RQ⟩:=cL CL
   obtain ⟨⟨xE,xD,xC,cr3,cr4,cr5,cr6⟩,du⟩:=cL AW
   have um:=du 0
   have uk:=du 1
   have uj:=du 2
   have fr3:=du 3
   have fr4:=du 4
   have fr5:=du 5
   have fr6:=du 6
   obtain ⟨t1,t2⟩:=dM AW (.string xn) (.slice fa xf.length fc) (.slice oa xo.length oc) (.slice ma xm.length mc) (.slice ea xe.length ec) (.slice ra xr.length rc) (.slice ga xg.length gc)
   have T1:=ab t1
   have T2:=ab (cy lv t2 (zD _))
   have T3:=ab (jg.gA t2 cC.2)
   have T4:=ab ((NV.kept t2 (.inr (by simp))).less (L':=[]) (by simp))
   have T5:=ab (aa WE).2
   have F':W.heap.size≠mi:=by omega
   clear t1 t2 hg hz jg lv CL AW NV RQ du WE jY
   go_wp2
   refine bodyPost_ret (results_cell_row rfl _ _ W.heap.size 49 #[.string xn,.slice fa xf.length fc,.slice oa xo.length oc,.slice ma xm.length mc,.slice ea xe.length ec,.slice ra xr.length rc,.slice ga xg.length gc] (0,0) _ rfl (aa T1) Tryz.underlying49 rfl j4) rfl ?_
   rw[←aa Fe]
   exact ⟨aa T2,aa T3,⟨xn,xf,xo,xm,xe,xr,xg⟩,⟨(fa,fc),(oa,oc),(ma,mc),(ea,ec),(ra,rc),(ga,gc),cm,ce⟩,rfl,aa T4,aa T5⟩
theorem Fh (n:Nat):Wj n:=by
 induction n with
 |zero =>
  intro W lo b s0 hn h hk ho
  have:=eT h.2.en hk (by decide)
  omega
 |succ n ih=>exact zW ih
end Go.Proofs.YtjophoclfccmcaaGreatDoor

import Derived.Test.YtjophoclfccmcaaGreatDoorPfX
set_option maxHeartbeats 4000000
set_option maxRecDepth 100000
namespace Go.Proofs.YtjophoclfccmcaaGreatDoor
open Go.RowKit
attribute [local go_sem ↓] Go.wp_at_zero Go.wp_at_succ
theorem K9 (w:World) (vs:Array Value):(callFunc 111 vs).run Tryz.prog w=.ok (.enter 111 vs) w:=by
 have hn:¬Tryz.f111.name = "runtime.NumGoroutine" := by decide +kernel
 have hb:Tryz.f111.body.isSome=true:=by kernel_rfl
 obtain ⟨c,hc⟩:=zG hb
 simp[callFunc,Tryz.func111,hn,hc]
theorem GB (w:World) (vs:Array Value):(callFunc 110 vs).run Tryz.prog w=.ok (.enter 110 vs) w:=by
 have hn:¬Tryz.f110.name = "runtime.NumGoroutine" := by decide +kernel
 have hb:Tryz.f110.body.isSome=true:=by kernel_rfl
 obtain ⟨c,hc⟩:=zG hb
 simp[callFunc,Tryz.func110,hn,hc]
theorem El (w:World) (vs:Array Value):(callFunc 41 vs).run Tryz.prog w=.ok (.enter 41 vs) w:=by
 have hn:¬Tryz.f41.name = "runtime.NumGoroutine" := by decide +kernel
 have hb:Tryz.f41.body.isSome=true:=by kernel_rfl
 obtain ⟨c,hc⟩:=zG hb
 simp[callFunc,Tryz.func41,hn,hc]
theorem tT (w:World) (vs:Array Value):(callFunc 40 vs).run Tryz.prog w=.ok (.enter 40 vs) w:=by
 have hn:¬Tryz.f40.name = "runtime.NumGoroutine" := by decide +kernel
 have hb:Tryz.f40.body.isSome=true:=by kernel_rfl
 obtain ⟨c,hc⟩:=zG hb
 simp[callFunc,Tryz.func40,hn,hc]
theorem Ti {R:PX}{kt pt:Int}{tt:ByteArray}{s0:ay} (hp:EF R ⟨kt,pt,tt⟩) (hk:kt≠5) (hs:∀s',R=.ok s'→s'=s0):R=.ok s0∧(⟨kt,pt,tt⟩:Tk)=s0.here:=by
 match R,hp,hs with
 |.error y,hp,_=>exact absurd hp.1 hk
 |.ok s,hp,hs =>
  obtain rfl:=hs s rfl
  exact ⟨rfl,hp.2.2 (by rw[←hp.1];exact hk)⟩
theorem tC {x:ByteArray}{l:List UInt8} (h:x≠⟨l.toArray⟩):(x.toList==l)=false:=by
 cases e:(x.toList==l) with
 |false=>rfl
 |true =>
  exfalso
  apply h
  have e2:x.toList=l:=eq_of_beq e
  have e3:(⟨l.toArray⟩:ByteArray).toList=l:=by rw[ByteArray.toList_eq]
  exact (Lib.bytes_beq_iff _ _).1 (by rw[e2,e3];exact beq_self_eq_true l)
theorem DH {mf:ay→Except (Int×Int) (Ms×ay)}{x:Mp}{R5:PX}{F0:Except (Int×Int) (Mp×ay)}{kt pt:Int}{tt:ByteArray} (hp:EF R5 ⟨kt,pt,tt⟩) (hF:F0=al R5 (nI mf x)) (h1:kt≠1) (h2:¬(kt=4∧tt=⟨#[59]⟩)) (h3:¬(kt=4∧tt=⟨#[46]⟩)):kP R5=aT F0∧∀a s,F0=.ok (a,s)→a=x:=by
 subst hF
 match R5,hp with
 |.error y,_=>exact ⟨rfl,fun a s e=>by cases e⟩
 |.ok s,hp =>
  have no:∀X:ByteArray,¬(kt=4∧tt=X)→¬aJ s.here 4 X=true:=fun X hn q=>by
   have q2:=bk.1 q
   have ht:=hp.2.2 (by rw[q2.1];decide)
   exact hn ⟨hp.1.trans q2.1,by have:tt=s.here.text:=congrArg Tk.text ht;rw[this];exact q2.2⟩
  have e:nI mf x s=.error (bR s):=by
   unfold nI
   rw[if_neg (no _ h2),if_pos ⟨fun q=>h1 (hp.1.trans q),no _ h3⟩]
  show _=aT (nI mf x s)∧∀a s',nI mf x s=.ok (a,s')→a=x
  rw[e]
  exact ⟨rfl,fun a s e=>by cases e⟩
theorem Fm.trans {b:Nat}{ss:List Slot}{W w w':World} (h:Fm b ss W w) (h':Fm b ss w w'):Fm b ss W w':=⟨h'.os.trans h.os,h'.tape.trans h.tape,h'.output.trans h.output,Nat.le_trans h.size h'.size,fun k h1 h2 h3=>(h'.block k (Nat.lt_of_lt_of_le h1 h.size) h2 h3).trans (h.block k h1 h2 h3)⟩
theorem OG.back {W w:World}{ss ss':List Slot} (h:OG w ss ss') (hs:W.heap.size≤w.heap.size):OG W ss ss':=fun i sl k hi hk=>(h i sl k hi hk).elim (fun q=>.inl (Nat.le_trans hs q)) .inr
theorem NA {mf:ay→Except (Int×Int) (Ms×ay)}{x:Mp}{s:ay} (h1:s.here.kind=1) (e:s.here.text=EP):nI mf x s=fH x s:=by
 rw[mA h1,if_neg (bM e (cb (by decide +kernel))),if_neg (bM e (cb (by decide +kernel))),if_pos (bk.2 ⟨h1,e⟩)]
theorem U0 {mf:ay→Except (Int×Int) (Ms×ay)}{x:Mp}{s:ay} (h1:s.here.kind=1) (e:s.here.text=kq):nI mf x s=bO (al (.ok s) (gF false)) (fun l s'=>.ok ({ x with rs:=x.rs++l.1,gs:=x.gs++l.2 },s')):=by
 rw[mA h1,if_neg (bM e (cb (by decide +kernel))),if_neg (bM e (cb (by decide +kernel))),if_neg (bM e (cb (by decide +kernel))),if_pos (bk.2 ⟨h1,e⟩)]
 show Rx x s=bO (gF false s) _
 unfold Rx
 rw[Ip,show jZ 1 536870911 false [] [] s=gF false s from rfl]
 cases gF false s with
 |error y=>rfl
 |ok p=>rfl
theorem U4 {mf:ay→Except (Int×Int) (Ms×ay)}{x:Mp}{s:ay} (h1:s.here.kind=1) (e:s.here.text=Kf) (h3:aJ (s.ahead 1) 4 ⟨#[60]⟩=true):nI mf x s=lV x (lu s):=by
 rw[mA h1,if_neg (bM e (cb (by decide +kernel))),if_neg (bM e (cb (by decide +kernel))),if_neg (bM e (cb (by decide +kernel))),if_neg (bM e (cb (by decide +kernel))),if_pos ⟨bk.2 ⟨h1,e⟩,h3⟩]
theorem RI {mf:ay→Except (Int×Int) (Ms×ay)}{x:Mp}{s:ay} (h1:s.here.kind=1) (e:s.here.text=lj):nI mf x s=OW x (al (.ok s) db):=by
 rw[mA h1,if_neg (bM e (cb (by decide +kernel))),if_pos (bk.2 ⟨h1,e⟩)]
 rfl
theorem ML {w:World}{b t sz n:Nat}{v:Value}{xs:List Value} (h:w.ownsRow b t sz v n xs):w.ownsRow 0 t sz v n xs:=⟨h.1,h.2.elim .inl (fun ⟨g,cap,cur,e,_,hc,rest⟩=>.inr ⟨g,cap,cur,e,Nat.zero_le _,hc,rest⟩)⟩
theorem yt {l n6 k:Nat}{L:List Nat}{w3:World}{x:Mp}{v:MV} (hs:nL l L w3 x v) (hl:l≤w3.heap.size) (h1:w3.heap.size≤k) (h2:k<n6):Nq l (n6::L) (v.ss x) k:=by
 refine ⟨by omega,fun hm=>?_,fun i sl hi hk=>?_⟩
 ·rcases List.mem_cons.1 hm with rfl|hm
  ·omega
  ·have:=hs.sl.lt k hm
   omega
 ·have:=((hs.sl.own i sl hi).lt k hk).2
  omega
theorem nL.PO {l i n':Nat}{L:List Nat}{w w':World}{x x':Mp}{v v':MV}{sl:Slot}{u:Value}{sj:List Value} (h:nL l L w x v) (yK:eT (Nq l L (v.ss x)) w v'.cm x'.ms) (AU:fE (Nq l L (v.ss x)) w v'.ce x'.es) (hi:(v.ss x)[i]?=some sl) (ho:w'.ownsRow l sl.t sl.sz u n' sj) (hg:w.grownBy w' sl.v.ownBlock) (fg:u.ownBlock=sl.v.ownBlock∨u.ownBlock=some w.heap.size) (he:v'.ss x'=(v.ss x).set i ⟨sl.t,sl.sz,u,n',sj⟩):nL l L w' x' v':=by
 have goes:wZ (Nq l L (v.ss x)) (Nq l L (v'.ss x')) w w':=by
  refine fun k hp hk=>⟨⟨hp.1,hp.2.1,fun j a hj=>?_⟩,hg.block k hk (fun e=>hp.2.2 i sl hi e.symm)⟩
  rw[he,List.getElem?_set] at hj
  by_cases e:i=j
  ·subst e
   rw[if_pos rfl,if_pos (zB hi).1] at hj
   obtain rfl:=zC hj
   intro hq
   rcases fg with fg|fg
   ·exact hp.2.2 i sl hi (by rw[←fg];exact hq)
   ·have:some w.heap.size=some k:=by rw[←fg];exact hq
    have:=zC this
    omega
  ·rw[if_neg e] at hj
   exact hp.2.2 j a hj
 exact ⟨by rw[he];exact h.sl.app hi ho hg fg,eX _ _ _ _ _ _ goes yK,eO _ _ _ _ _ _ goes AU⟩
theorem nH.PO {W w w1:World}{lo b l mi ri ti i j n':Nat}{jX:List Slot}{L:List Nat}{x x':Mp}{v v':MV}{R:PX}{sl:Slot}{u:Value}{sj:List Value} (h:nH W lo b l mi ri ti jX L x v R w) (hL:Ta W lo b l mi ri ti L) (yK:eT (Nq l L (v.ss x)) w v'.cm x'.ms) (AU:fE (Nq l L (v.ss x)) w v'.ce x'.es) (hi:(v.ss x)[i]?=some sl) (ho:w1.ownsRow l sl.t sl.sz u n' sj) (hg:w.grownBy w1 sl.v.ownBlock) (fg:u.ownBlock=sl.v.ownBlock∨u.ownBlock=some w.heap.size) (he:v'.ss x'=(v.ss x).set i ⟨sl.t,sl.sz,u,n',sj⟩) (ha:(w1.setCell ⟨mi,j,none⟩ u).heap[mi]?=some (.cells (v'.arr x') 49 (0,0))) (hs:w1.grownBy (w1.setCell ⟨mi,j,none⟩ u) (some mi)):nH W lo b l mi ri ti jX L x' v' R (w1.setCell ⟨mi,j,none⟩ u):=by
 obtain ⟨k,p,tx,ht⟩:=h.t
 have ji:=hL.lo
 have hm:=hL.m
 refine ⟨(h.F.row hg (fun k hk=>h.og i sl k hi hk)).gu hs hL.m,(h.s.sl.zr hi ji.2.1 h.z hg).gu hs (by omega),ha,ax hs (h.s.sl.lA hi hL.mem.2.1 h.r hg) hL.ne.1.symm,⟨k,p,tx,ax hs (h.s.sl.lA hi hL.mem.2.2 ht hg) hL.ne.2.1.symm⟩,(h.s.PO yK AU hi ho hg fg he).kept hs (.inr hL.mem.1),?_⟩
 intro a sa k Ov hk
 rw[he,List.getElem?_set] at Ov
 by_cases e:i=a
 ·subst e
  rw[if_pos rfl,if_pos (zB hi).1] at Ov
  obtain rfl:=zC Ov
  rcases fg with fg|fg
  ·exact h.og i sl k hi (by rw[←fg];exact hk)
  ·have:some w.heap.size=some k:=by rw[←fg];exact hk
   have:=zC this
   have:=h.F.size
   exact .inl (by omega)
 ·rw[if_neg e] at Ov
  exact h.og a sa k Ov hk
theorem NS:(Tryz.prog.info? 71).map (fun i=>(i.zero,i.size,i.bytes))=some (some (.agg #[.string ⟨#[]⟩,.slice none 0 0,.slice none 0 0,.slice none 0 0]),4,88):=by kernel_rfl
theorem U2 {mf:ay→Except (Int×Int) (Ms×ay)}{x:Mp}{s:ay} (h1:s.here.kind=1) (e:s.here.text=hU):nI mf x s=FL x (mf s):=by
 rw[mA h1,if_pos (bk.2 ⟨h1,e⟩)]
theorem NQ:(Tryz.prog.info? 49).map (fun i=>(i.zero,i.size,i.bytes))=some (some (.agg #[.string ⟨#[]⟩,.slice none 0 0,.slice none 0 0,.slice none 0 0,.slice none 0 0,.slice none 0 0,.slice none 0 0]),7,160):=by kernel_rfl
theorem yy {mf:ay→Except (Int×Int) (Ms×ay)}{x:Mp}{s:ay} (h0:¬aJ s.here 4 ⟨#[59]⟩=true) (h1:s.here.kind=1∨aJ s.here 4 ⟨#[46]⟩=true) (hn:∀W ∈ [hU,lj,EP,kq],¬aJ s.here 1 W=true) (hm:¬(aJ s.here 1 Kf=true∧aJ (s.ahead 1) 4 ⟨#[60]⟩=true)):nI mf x s=lV x (fX s):=by
 unfold nI
 rw[if_neg h0,if_neg (fun q=>h1.elim q.1 q.2),if_neg (hn _ (by simp)),if_neg (hn _ (by simp)),if_neg (hn _ (by simp)),if_neg (hn _ (by simp)),if_neg hm]
def WD (lo b:Nat) (W:World) (r:Except (Int×Int) (Ms×ay)) (e:Ending) (w:World):Prop:=W.grownBy w (some b)∧Zr lo w b (aT r)∧∃(x:Mp) (v:MV),e=.returned (.agg (v.arr x))∧nL W.heap.size [] w x v∧∀a s,r=.ok (a,s)→a=x.done
theorem Jw {W:World}{lo b l:Nat}{L:List Nat}{s0:ay}{x:Mp}{v:MV}{op:Int}{mf:ay→Except (Int×Int) (Ms×ay)} (IC:∀s m s',mf s=.ok (m,s')→Gt s s') (h:Zr lo W b (.ok s0)) (hl:lo≤l∧l≤W.heap.size) (hM:nL l L W x v) (hB:pU 1000000000 (bH x) (.ok s0))
  (RW:aJ s0.here 1 hU=true→∀w,Zr lo w b (.ok s0)→Calls Tryz.prog 40 #[.pointer (some ⟨b,0,none⟩),.int .i64 (wrap64 (op+1))] w (WD lo b w (mf s0))):Calls Tryz.prog 72 #[.pointer (some ⟨b,0,none⟩),.agg (v.arr x),.int .i64 op] W (MbQ lo b l L W (v.ss x) (al (.ok s0) (fun s=>bO (dj mB s) (fun _ s1=>nI mf x s1)))):=by
 obtain ⟨j0,hj,Tq,Tp,To⟩:=info_parts NR
 obtain ⟨i0,hi,zy,zx,jK⟩:=info_parts ry
 obtain ⟨r0,Od,rz0,rz1,rz2⟩:=info_parts FV
 obtain ⟨d0,Ae,dz0,dz1,dz2⟩:=info_parts NS
 obtain ⟨g0,F9,gz0,gz1,gz2⟩:=info_parts NQ
 have cB:=h.low
 have zT:Hid (Gd s0):=h.2
 have HB:=ab hB
 obtain ⟨nm,fs,os,ms,es,rs,gs⟩:=x
 obtain ⟨⟨fa,fc⟩,⟨oa,oc⟩,⟨ma,mc⟩,⟨ea,ec⟩,⟨ra,rc⟩,⟨ga,gc⟩,cm,ce⟩:=v
 obtain ⟨jX,Ku⟩:∃jX,jX=MV.ss ⟨(fa,fc),(oa,oc),(ma,mc),(ea,ec),(ra,rc),(ga,gc),cm,ce⟩ ⟨nm,fs,os,ms,es,rs,gs⟩:=⟨_,rfl⟩
 obtain ⟨R5,um⟩:∃R5,R5=aT (al (.ok s0) (dj mB)):=⟨_,rfl⟩
 obtain ⟨F0,sP⟩:∃F0,F0=al (.ok s0) (fun s=>bO (dj mB s) (fun _ s1=>nI mf ⟨nm,fs,os,ms,es,rs,gs⟩ s1)):=⟨_,rfl⟩
 have HF:Hid (F0=al R5 (nI mf ⟨nm,fs,os,ms,es,rs,gs⟩)):=by
  show _=_
  rw[sP,um,fe]
  rfl
 have CB:Hid (∀s',R5=.ok s'→s'=s0):=by
  intro s' e
  rw[um,show al (.ok s0) (dj mB)=dj mB s0 from rfl] at e
  unfold dj at e
  split at e
  ·cases e
  ·cases e;rfl
 have tj:Hid (∀s',aT F0=.ok s'→s'.ts.length<s0.ts.length):=by
  intro s' e
  rw[sP,show al (.ok s0) (fun s=>bO (dj mB s) (fun _ s1=>nI mf ⟨nm,fs,os,ms,es,rs,gs⟩ s1))=bU (mz mf) ER ⟨nm,fs,os,ms,es,rs,gs⟩ s0 from (Bm (aa zT)).symm] at e
  cases hr:bU (mz mf) ER ⟨nm,fs,os,ms,es,rs,gs⟩ s0 with
  |error y=>rw[hr] at e;cases e
  |ok p =>
   rw[hr] at e
   cases e
   obtain ⟨h1,h2⟩:=gX (yw mf IC) (fun x s x' s' h=>jP h) (x':=p.1) hr
   exact dP h1 (h2 (aa zT).en)
 have E5:=ab sP
 have P8:Hid (OG W jX (MV.ss ⟨(fa,fc),(oa,oc),(ma,mc),(ea,ec),(ra,rc),(ga,gc),cm,ce⟩ ⟨nm,fs,os,ms,es,rs,gs⟩)):=fun i sl k hi hk=>.inr ⟨i,sl,by rw[Ku];exact hi,hk⟩
 have bQ:=(zE W.heap.size W).alloc (zD _) (.cells #[.string nm,.slice fa fs.length fc,.slice oa os.length oc,.slice ma ms.length mc,.slice ea es.length ec,.slice ra rs.length rc,.slice ga gs.length gc] 49)
 have Z8:=hM.box (.cells #[.string nm,.slice fa fs.length fc,.slice oa os.length oc,.slice ma ms.length mc,.slice ea es.length ec,.slice ra rs.length rc,.slice ga gs.length gc] 49)
 have Oy:=Z8.box (.cells #[.string ⟨#[]⟩,.slice none 0 0,.slice none 0 0,.slice none 0 0,.slice none 0 0,.slice none 0 0,.slice none 0 0] 49)
 rw[zJ] at Oy
 have xL:=ab Oy
 have br:=bQ.alloc bQ.size (.cells #[.string ⟨#[]⟩,.slice none 0 0,.slice none 0 0,.slice none 0 0,.slice none 0 0,.slice none 0 0,.slice none 0 0] 49)
 have jm:=ab br
 have HZ:=ab (h.up br)
 have WT:Hid (((W.alloc (.cells #[.string nm,.slice fa fs.length fc,.slice oa os.length oc,.slice ma ms.length mc,.slice ea es.length ec,.slice ra rs.length rc,.slice ga gs.length gc] 49)).alloc (.cells #[.string ⟨#[]⟩,.slice none 0 0,.slice none 0 0,.slice none 0 0,.slice none 0 0,.slice none 0 0,.slice none 0 0] 49)).heap[W.heap.size]?=some (.cells #[.string nm,.slice fa fs.length fc,.slice oa os.length oc,.slice ma ms.length mc,.slice ea es.length ec,.slice ra rs.length rc,.slice ga gs.length gc] 49 (0,0))):=bL (aH _ _) _
 have Kv:=aH (W.alloc (.cells #[.string nm,.slice fa fs.length fc,.slice oa os.length oc,.slice ma ms.length mc,.slice ea es.length ec,.slice ra rs.length rc,.slice ga gs.length gc] 49)) (.cells #[.string ⟨#[]⟩,.slice none 0 0,.slice none 0 0,.slice none 0 0,.slice none 0 0,.slice none 0 0,.slice none 0 0] 49)
 rw[zJ] at Kv
 have aV:=ab Kv
 obtain ⟨WA,LF⟩:∃WA,WA=(W.alloc (.cells #[.string nm,.slice fa fs.length fc,.slice oa os.length oc,.slice ma ms.length mc,.slice ea es.length ec,.slice ra rs.length rc,.slice ga gs.length gc] 49)).alloc (.cells #[.string ⟨#[]⟩,.slice none 0 0,.slice none 0 0,.slice none 0 0,.slice none 0 0,.slice none 0 0,.slice none 0 0] 49):=⟨_,rfl⟩
 have Zi:WA.heap.size=W.heap.size+2:=by rw[LF,zJ,zJ]
 have HW:Hid (tc (WA.alloc (.cells #[.string ⟨#[111,112,116,105,111,110]⟩,.string ⟨#[101,120,116,101,110,100]⟩,.string ⟨#[101,120,116,101,110,115,105,111,110,115]⟩,.string ⟨#[103,114,111,117,112]⟩,.string ⟨#[114,101,113,117,105,114,101,100]⟩] 9)) (.slice (some ⟨W.heap.size+2,0,none⟩) 5 5) 5 (dR mB)):=by
  have:=mY WA mB 9
  rw[Zi] at this
  exact this
 have qL:=(zE WA.heap.size WA).alloc (zD _) (.cells #[.string ⟨#[111,112,116,105,111,110]⟩,.string ⟨#[101,120,116,101,110,100]⟩,.string ⟨#[101,120,116,101,110,115,105,111,110,115]⟩,.string ⟨#[103,114,111,117,112]⟩,.string ⟨#[114,101,113,117,105,114,101,100]⟩] 9)
 rw[←LF] at xL jm HZ WT aV
 have Jl:=ab ((aa HZ).up qL)
 have Lt:=ab (aO qL (some b))
 rw[LF] at HW Jl
 have HWA:=ab LF
 clear h hB hM Z8 Oy bQ br Kv sP qL LF
 unfold MV.arr
 simp only
 rw[←Ku,←aa E5]
 go_enter Tryz.func72,Tryz.ntmps72
 go_wp2_with fail
 refine (gY (l:=mB) (aa Jl) (aa HW)).mono ?_
 rintro e w1 ⟨hg,hz,v0,rfl,mD,-⟩
 obtain rfl:=mD
 rw[←um] at hz
 rw[←aa HWA] at hg
 have Qx:=ab hz
 have tn:=ab ((aa Lt).trans hg)
 clear hg hz Jl Lt HW HZ
 have DQ:W.heap.size+2≤w1.heap.size:=by have:=(aa tn).size;omega
 go_wp2_with fail
 refine (gf (aa Qx)).mono ?_
 rintro e w2 ⟨⟨kt,pt,tt⟩,rfl,hb,hp⟩
 have pB:=ab hp
 have sM:=hb.size
 have Qq:=(aa tn).trans (aO hb (some b))
 have XM:nH W lo b l W.heap.size (W.heap.size+1) w2.heap.size jX (w2.heap.size::(W.heap.size+1)::W.heap.size::L) ⟨nm,fs,os,ms,es,rs,gs⟩ ⟨(fa,fc),(oa,oc),(ma,mc),(ea,ec),(ra,rc),(ga,gc),cm,ce⟩ R5 (w2.alloc (.cells #[.int .i64 kt,.int .i64 pt,.string tt] 38)) :=
  ⟨(((Fm.refl b jX W).below (aa jm)).kept Qq).below ((zE _ _).alloc (zD _) _),((aa Qx).up hb).up ((zE _ _).alloc (zD _) _),bL (ax Qq (aa WT) (by omega)) _,bL (ax Qq (aa aV) (by omega)) _,⟨kt,pt,tt,aH _ _⟩,((aa xL).kept Qq (.inl (by omega))).box _,aa P8⟩
 have E3:Hid ((w2.alloc (.cells #[.int .i64 kt,.int .i64 pt,.string tt] 38)).heap[w2.heap.size]?=some (.cells #[.int .i64 kt,.int .i64 pt,.string tt] 38 (0,0))):=aH _ _
 have HL:Hid (Ta W lo b l W.heap.size (W.heap.size+1) w2.heap.size (w2.heap.size::(W.heap.size+1)::W.heap.size::L)):=⟨⟨cB.1,hl.1,hl.2⟩,zD _,by omega,by omega,⟨by omega,by omega,by omega⟩,⟨by simp,by simp,by simp⟩⟩
 have jb:=ab XM
 obtain ⟨ti,IA⟩:∃t,t=w2.heap.size:=⟨_,rfl⟩
 have aby:W.heap.size+2≤ti:=by omega
 rw[←IA] at jb E3 HL
 unfold Tk.val
 go_upto_region 3 with fail
 rw[←IA]
 obtain ⟨w3,iU⟩:∃w3,w3=w2.alloc (.cells #[.int .i64 kt,.int .i64 pt,.string tt] 38):=⟨_,rfl⟩
 rw[←iU] at jb E3 ⊢
 clear IA iU hb hp Qq XM Qx tn jm xL WT aV P8 Zi DQ sM HWA um E5
 obtain ⟨⟨EZ,EY,EX⟩,mF⟩:=dE (aa E3)
 clear mF
 by_cases k4:kt=4
 focus
  subst k4
  obtain ⟨rfl,hh⟩:=Ti (aa pB) (by decide) (aa CB)
  have HH:=ab hh
  clear hh
  by_cases h59:tt=⟨#[59]⟩
  ·subst h59
   have HS0:Hid (aJ s0.here 4 ⟨#[59]⟩=true):=bk.2 ⟨by rw[←aa HH],by rw[←aa HH]⟩
   obtain ⟨i,ci,fi,bD,ui⟩:=(aa jb).z.next (fun s' e=>by cases e;exact eR (aa zT).en (aa HS0) (by decide))
   obtain ⟨g1,z1⟩:=bD (wrap64 (i+1)) (fun s e=>eJ (ui s e))
   have eV:=ab ((aa jb).kept (aa HL) g1 z1)
   have hf:F0=.ok (⟨nm,fs,os,ms,es,rs,gs⟩,s0.nx):=by
    rw[aa HF]
    show nI mf ⟨nm,fs,os,ms,es,rs,gs⟩ s0=_
    unfold nI
    rw[if_pos (aa HS0)]
   have sg:Hid (kK (.ok s0)=aT F0):=by show _=_;rw[hf];rfl
   have lN:Hid (∀a s,F0=.ok (a,s)→a=(⟨nm,fs,os,ms,es,rs,gs⟩:Mp)):=fun a s e=>by rw[hf] at e;cases e;rfl
   have G1:Hid (bH ⟨nm,fs,os,ms,es,rs,gs⟩≤bH ⟨nm,fs,os,ms,es,rs,gs⟩+50000):=Nat.le_add_right _ _
   clear g1 z1 bD ui hf
   have hm:(w3.setCell ⟨b,1,none⟩ (.int .i64 (wrap64 (i+1)))).heap[W.heap.size]?=some (.cells #[.string nm,.slice fa fs.length fc,.slice oa os.length oc,.slice ma ms.length mc,.slice ea es.length ec,.slice ra rs.length rc,.slice ga gs.length gc] 49 (0,0)):=by first|exact (aa eV).m|(have h1:=(aa eV).m;simp only[MV.arr,zK] at h1;exact h1)
   have hr:(w3.setCell ⟨b,1,none⟩ (.int .i64 (wrap64 (i+1)))).heap[W.heap.size+1]?=some (.cells #[.string ⟨#[]⟩,.slice none 0 0,.slice none 0 0,.slice none 0 0,.slice none 0 0,.slice none 0 0,.slice none 0 0] 49 (0,0)):=(aa eV).r
   have Wp:=seen hm
   have Wo:=seen hr
   have V2:=aS hr
   obtain ⟨t1,t2⟩:=dJ hr (.string nm) (.slice fa fs.length fc) (.slice oa os.length oc) (.slice ma ms.length mc) (.slice ea es.length ec) (.slice ra rs.length rc) (.slice ga gs.length gc)
   have T1:=ab t1
   have T2:=ab ((aa eV).F.gu t2 (by omega))
   have T3:=ab ((aa eV).z.gu t2 (by omega))
   have T4:=ab (((aa eV).s.kept t2 (.inr (by simp))).less (L':=L) (fun k hk=>zF _ (zF _ (zF _ hk))))
   have T5:=ab (aa eV).og
   clear t1 t2 hm hr
   go_wp2
   refine bodyPost_ret (results_cell_row rfl _ _ (W.heap.size+1) 49 #[.string nm,.slice fa fs.length fc,.slice oa os.length oc,.slice ma ms.length mc,.slice ea es.length ec,.slice ra rs.length rc,.slice ga gs.length gc] (0,0) _ rfl (aa T1) Tryz.underlying49 rfl jY) rfl ?_
   refine ⟨aa T2,by rw[←aa sg];exact aa T3,⟨nm,fs,os,ms,es,rs,gs⟩,⟨(fa,fc),(oa,oc),(ma,mc),(ea,ec),(ra,rc),(ga,gc),cm,ce⟩,by first|rfl|(simp only[MV.arr,zK];done)|(simp only[MV.arr,zK];rfl),aa T4,aa T5,?_,aa lN⟩
   exact (aa HB).next (aa G1) (aa tj)
  by_cases h46:tt=⟨#[46]⟩
  focus
    subst h46
    have CL:Hid (s0.here.kind=4):=by show _=_;rw[←aa HH]
    have oP:Hid (s0.here.text=⟨#[46]⟩):=by show _=_;rw[←aa HH]
    have HMB:Hid (nI mf ⟨nm,fs,os,ms,es,rs,gs⟩ s0=lV ⟨nm,fs,os,ms,es,rs,gs⟩ (fX s0)):=yy (fun q=>absurd ((aa oP).symm.trans (bk.1 q).2) (cb (by decide +kernel))) (.inr (bk.2 ⟨aa CL,aa oP⟩)) (fun W _ q=>absurd ((aa CL).symm.trans (bk.1 q).1) (by decide)) (fun q=>absurd ((aa CL).symm.trans (bk.1 q.1).1) (by decide))
  rotate_left
  ·have n1:(tt.toList==[59])=false:=tC h59
   have n2:(tt.toList==[46])=false:=tC h46
   obtain ⟨eF,kl⟩:=DH (aa pB) (aa HF) (by decide) (fun q=>h59 q.2) (fun q=>h46 q.2)
   have HW1:=ab eF
   have Lr:=ab kl
   clear eF kl h59 h46
   go_wp2_with fail
   refine (kO (aa jb).z).mono ?_
   rintro e w4 ⟨rfl,hg,hz⟩
   have eV:=ab ((aa jb).kept (aa HL) hg hz)
   have sg:=HW1
   have lN:=Lr
   have G1:Hid (bH ⟨nm,fs,os,ms,es,rs,gs⟩≤bH ⟨nm,fs,os,ms,es,rs,gs⟩+50000):=Nat.le_add_right _ _
   clear hg hz
   have hm:w4.heap[W.heap.size]?=some (.cells #[.string nm,.slice fa fs.length fc,.slice oa os.length oc,.slice ma ms.length mc,.slice ea es.length ec,.slice ra rs.length rc,.slice ga gs.length gc] 49 (0,0)):=by first|exact (aa eV).m|(have h1:=(aa eV).m;simp only[MV.arr,zK] at h1;exact h1)
   have hr:w4.heap[W.heap.size+1]?=some (.cells #[.string ⟨#[]⟩,.slice none 0 0,.slice none 0 0,.slice none 0 0,.slice none 0 0,.slice none 0 0,.slice none 0 0] 49 (0,0)):=(aa eV).r
   have Wp:=seen hm
   have Wo:=seen hr
   have V2:=aS hr
   obtain ⟨t1,t2⟩:=dJ hr (.string nm) (.slice fa fs.length fc) (.slice oa os.length oc) (.slice ma ms.length mc) (.slice ea es.length ec) (.slice ra rs.length rc) (.slice ga gs.length gc)
   have T1:=ab t1
   have T2:=ab ((aa eV).F.gu t2 (by omega))
   have T3:=ab ((aa eV).z.gu t2 (by omega))
   have T4:=ab (((aa eV).s.kept t2 (.inr (by simp))).less (L':=L) (fun k hk=>zF _ (zF _ (zF _ hk))))
   have T5:=ab (aa eV).og
   clear t1 t2 hm hr
   go_wp2
   refine bodyPost_ret (results_cell_row rfl _ _ (W.heap.size+1) 49 #[.string nm,.slice fa fs.length fc,.slice oa os.length oc,.slice ma ms.length mc,.slice ea es.length ec,.slice ra rs.length rc,.slice ga gs.length gc] (0,0) _ rfl (aa T1) Tryz.underlying49 rfl jY) rfl ?_
   refine ⟨aa T2,by rw[←aa sg];exact aa T3,⟨nm,fs,os,ms,es,rs,gs⟩,⟨(fa,fc),(oa,oc),(ma,mc),(ea,ec),(ra,rc),(ga,gc),cm,ce⟩,by first|rfl|(simp only[MV.arr,zK];done)|(simp only[MV.arr,zK];rfl),aa T4,aa T5,?_,aa lN⟩
   exact (aa HB).next (aa G1) (aa tj)
 rotate_left
 focus
  by_cases k1:kt=1
  focus
   subst k1
   obtain ⟨rfl,hh⟩:=Ti (aa pB) (by decide) (aa CB)
   have CL:Hid (s0.here.kind=1):=by show _=_;rw[←hh]
   have oP:Hid (s0.here.text=tt):=by show _=_;rw[←hh]
   clear hh k4
   by_cases h1:tt=⟨#[109,101,115,115,97,103,101]⟩
   ·subst h1
    go_upto_region 12 with fail
    have hT:w3.drew.heap[W.heap.size]?=some (.cells #[.string nm,.slice fa fs.length fc,.slice oa os.length oc,.slice ma ms.length mc,.slice ea es.length ec,.slice ra rs.length rc,.slice ga gs.length gc] 49 (0,0)):=(aa jb).m
    refine wp_region_any (by kernel_rfl) (dr (z:=9) (T:=fun w=>w.heap[W.heap.size]?=some (.cells #[.string nm,.slice fa fs.length fc,.slice oa os.length oc,.slice ma ms.length mc,.slice ea es.length ec,.slice ra rs.length rc,.slice ga gs.length gc] 49 (0,0))) _ _ _ _ ?_)
    try (change dI _ _ _ _ _ _ _ _ _ (World.drew _))
    refine aB 0 (.pointer (some ⟨W.heap.size,3,none⟩)) 55 rfl rfl (Or.inl ⟨by rfl,fun w hw=>by go_simp⟩) hT ?_
    simp only[Act.put,zL,zM,zN]
    refine aB 1 (.slice ma ms.length mc) 56 rfl rfl (Or.inl ⟨by rfl,fun w hw=>by have c:=(cK hw).1.2.2.2.1;go_simp⟩) hT ?_
    simp only[Act.put,zL,zM,zN]
    refine aB 2 (.pointer (some ⟨b,0,none⟩)) 57 rfl rfl (Or.inl ⟨by rfl,fun w hw=>by go_simp⟩) hT ?_
    simp only[Act.put,zL,zM,zN]
    refine aB 3 (.int .i64 op) 58 rfl rfl (Or.inl ⟨by rfl,fun w hw=>by go_simp⟩) hT ?_
    simp only[Act.put,zL,zM,zN]
    refine aB 4 (.int .i64 (wrap64 (op+1))) 59 rfl rfl (Or.inl ⟨by rfl,fun w hw=>by go_simp;rw[IntKind.wrap_i64];unfold wrap64;rfl⟩) hT ?_
    simp only[Act.put,zL,zM,zN]
    refine aN 5 (by kernel_rfl) rfl (fun K hK=>?_)
    refine eB 60 rfl rfl 40 (tT _) #[.tmp 57,.tmp 59] #[55,3] rfl #[.pointer (some ⟨b,0,none⟩),.int .i64 (wrap64 (op+1))] (by first|rfl|simp[Act.eval]) (RW (bk.2 ⟨aa CL,aa oP⟩) _ (show Zr lo w3.drew b (.ok s0) from (aa jb).z.drew)) ?_
    rintro o6 w6 ⟨hg,hz,⟨qn,qf,qo,qm,qe,qr,qg⟩,⟨⟨b1,d1⟩,⟨b2,d2⟩,⟨b3,d3⟩,⟨b4,d4⟩,⟨b5,d5⟩,⟨b6,d6⟩,qcm,qce⟩,rfl,hS,hv⟩
    have cN:w3.grownBy w6 (some b):=⟨hg.os,hg.tape,hg.output,hg.size,hg.block⟩
    have jl:=ab ((aa jb).kept (aa HL) cN hz)
    have js:w6.heap[W.heap.size]?=some (.cells #[.string nm,.slice fa fs.length fc,.slice oa os.length oc,.slice ma ms.length mc,.slice ea es.length ec,.slice ra rs.length rc,.slice ga gs.length gc] 49 (0,0)):=(aa jl).m
    have Ow:=hS.sl.alloc (.cells #[.string qn,.slice b1 qf.length d1,.slice b2 qo.length d2,.slice b3 qm.length d3,.slice b4 qe.length d4,.slice b5 qr.length d5,.slice b6 qg.length d6] 49)
    have LC:l≤w3.heap.size:=by have:=(aa jb).F.size;omega
    have WW:Hid (eT (Nq l (w6.heap.size::(ti::(W.heap.size+1)::W.heap.size::L)) (MV.ss ⟨(fa,fc),(oa,oc),(ma,mc),(ea,ec),(ra,rc),(ga,gc),cm,ce⟩ ⟨nm,fs,os,ms,es,rs,gs⟩)) (w6.alloc (.cells #[.string qn,.slice b1 qf.length d1,.slice b2 qo.length d2,.slice b3 qm.length d3,.slice b4 qe.length d4,.slice b5 qr.length d5,.slice b6 qg.length d6] 49)) [.string qn,.slice b1 qf.length d1,.slice b2 qo.length d2,.slice b3 qm.length d3,.slice b4 qe.length d4,.slice b5 qr.length d5,.slice b6 qg.length d6] [(Ms.mk qn qf qo qm qe qr qg)]):=by
     have goes:∀P:Nat→Prop,(∀k,P k→w3.heap.size≤k)→wZ P (Nq l (w6.heap.size::(ti::(W.heap.size+1)::W.heap.size::L)) (MV.ss ⟨(fa,fc),(oa,oc),(ma,mc),(ea,ec),(ra,rc),(ga,gc),cm,ce⟩ ⟨nm,fs,os,ms,es,rs,gs⟩)) w6 (w6.alloc (.cells #[.string qn,.slice b1 qf.length d1,.slice b2 qo.length d2,.slice b3 qm.length d3,.slice b4 qe.length d4,.slice b5 qr.length d5,.slice b6 qg.length d6] 49)):=fun P hP k hp hk=>⟨yt (aa jb).s LC (hP k hp) hk,Below.heap_alloc _ _ _ hk⟩
     have q:∀(i:Nat) (sl:Slot),(MV.ss ⟨(b1,d1),(b2,d2),(b3,d3),(b4,d4),(b5,d5),(b6,d6),qcm,qce⟩ ⟨qn,qf,qo,qm,qe,qr,qg⟩)[i]?=some sl→je (Nq l (w6.heap.size::(ti::(W.heap.size+1)::W.heap.size::L)) (MV.ss ⟨(fa,fc),(oa,oc),(ma,mc),(ea,ec),(ra,rc),(ga,gc),cm,ce⟩ ⟨nm,fs,os,ms,es,rs,gs⟩)) (w6.alloc (.cells #[.string qn,.slice b1 qf.length d1,.slice b2 qo.length d2,.slice b3 qm.length d3,.slice b4 qe.length d4,.slice b5 qr.length d5,.slice b6 qg.length d6] 49)) sl.t sl.sz sl.v sl.n sl.xs:=fun i sl hi=>⟨ML (Ow.own i sl hi),fun k hk=>yt (aa jb).s LC ((hS.sl.own i sl hi).lt k hk).1 ((hS.sl.own i sl hi).lt k hk).2⟩
     exact .cons (q 0 _ rfl) (q 1 _ rfl) (q 2 _ rfl) (eX _ _ _ _ _ _ (goes _ (fun k hp=>hp.1)) hS.ms) (q 3 _ rfl) (eO _ _ _ _ _ _ (goes _ (fun k hp=>hp.1)) hS.es) (q 4 _ rfl) (q 5 _ rfl) .nil
    have dp:F0=FL ⟨nm,fs,os,ms,es,rs,gs⟩ (mf s0):=(aa HF).trans (U2 (aa CL) (aa oP))
    have sg:Hid (aT (mf s0)=aT F0):=by
     show _=_
     rw[dp]
     cases mf s0 with
     |error y=>rfl
     |ok p=>rfl
    have lN:Hid (∀a s,F0=.ok (a,s)→a=(⟨nm,fs,os,ms++[(Ms.mk qn qf qo qm qe qr qg)],es,rs,gs⟩:Mp)):=fun a s e=>by
     rw[dp] at e
     cases hr:mf s0 with
     |error y=>rw[hr] at e;cases e
     |ok p =>
      have h1:=hv p.1 p.2 hr
      rw[hr] at e
      obtain ⟨p1,p2⟩:=p
      dsimp only[Mp.done] at h1
      subst h1
      cases e
      rfl
    have G1:Hid (bH ⟨nm,fs,os,ms++[(Ms.mk qn qf qo qm qe qr qg)],es,rs,gs⟩≤bH ⟨nm,fs,os,ms,es,rs,gs⟩+50000):=by show _≤_;unfold bH;simp only[zK];show fs.length+os.length+(ms.length+1)+es.length+rs.length+gs.length≤_;omega
    clear dp hS Ow LC
    refine ⟨_,rfl,hK _ _ ⟨fun _=>js,?_⟩⟩
    clear hK K hg hz hv cN hT
    simp only[Act.put,zL,zM,zN,MV.arr]
    refine aN 6 (by kernel_rfl) rfl (fun K hK=>?_)
    go_simp
    refine hK _ _ ⟨fun _=>bL js _,?_⟩
    clear hK K
    refine aN 7 (by kernel_rfl) rfl (fun K hK=>?_)
    have Ad:W.heap.size≤w6.heap.size:=(aa jl).F.size
    have kN:=ab ((aa jl).s.alloc (.cells #[.string qn,.slice b1 qf.length d1,.slice b2 qo.length d2,.slice b3 qm.length d3,.slice b4 qe.length d4,.slice b5 qr.length d5,.slice b6 qg.length d6] 49))
    refine dN rfl (.tmp 56) (.tmp 61) 24 rfl l 49 g0 (.agg #[.string ⟨#[]⟩,.slice none 0 0,.slice none 0 0,.slice none 0 0,.slice none 0 0,.slice none 0 0,.slice none 0 0]) 7 160 Tryz.underlying24 F9 gz0 gz1 gz2 rfl (by decide) (.slice ma ms.length mc) ms.length (cm) (by first|rfl|simp[Act.eval]) ((aa kN).sl.own 2 _ rfl) ⟨w6.heap.size,0,none⟩ 1 1 [.string qn,.slice b1 qf.length d1,.slice b2 qo.length d2,.slice b3 qm.length d3,.slice b4 qe.length d4,.slice b5 qr.length d5,.slice b6 qg.length d6] (by first|rfl|simp[Act.eval]) rfl (df _ _ _) (by simp[Value.oneCell']) (by have:=(aa HB).1;unfold bH at this;simp only at this;unfold maxLen;omega) (by have:=(aa HB).1;unfold bH at this;simp only at this;omega) (by rw[zJ];omega) ?_
    intro v7 w7 dx cc jd
    obtain ⟨a7,c7,rfl⟩:=bY dx
    have fK:w7.heap[W.heap.size]?=some (.cells #[.string nm,.slice fa fs.length fc,.slice oa os.length oc,.slice ma ms.length mc,.slice ea es.length ec,.slice ra rs.length rc,.slice ga gs.length gc] 49 (0,0)):=(aa kN).sl.lA (i:=2) rfl (by simp) (bL js _) cc
    have ky:=aC (j:=3) fK (.slice a7 (ms.length+1) c7)
    have eV:Hid (nH W lo b l W.heap.size (W.heap.size+1) ti jX (ti::(W.heap.size+1)::W.heap.size::L) ⟨nm,fs,os,ms++[(Ms.mk qn qf qo qm qe qr qg)],es,rs,gs⟩ ⟨(fa,fc),(oa,oc),(a7,c7),(ea,ec),(ra,rc),(ga,gc),cm++([.string qn,.slice b1 qf.length d1,.slice b2 qo.length d2,.slice b3 qm.length d3,.slice b4 qe.length d4,.slice b5 qr.length d5,.slice b6 qg.length d6]:List Value),ce⟩ (aT (mf s0)) (w7.setCell ⟨W.heap.size,3,none⟩ (.slice a7 (ms.length+1) c7))):=by
     refine (((aa jl).box (.cells #[.string qn,.slice b1 qf.length d1,.slice b2 qo.length d2,.slice b3 qm.length d3,.slice b4 qe.length d4,.slice b5 qr.length d5,.slice b6 qg.length d6] 49)).PO (x':=⟨nm,fs,os,ms++[(Ms.mk qn qf qo qm qe qr qg)],es,rs,gs⟩) (v':=⟨(fa,fc),(oa,oc),(a7,c7),(ea,ec),(ra,rc),(ga,gc),cm++([.string qn,.slice b1 qf.length d1,.slice b2 qo.length d2,.slice b3 qm.length d3,.slice b4 qe.length d4,.slice b5 qr.length d5,.slice b6 qg.length d6]:List Value),ce⟩) (aa HL).box (eT.app ((aa jl).s.box _).ms (aa WW)) ((aa jl).s.box _).es (i:=2) rfl dx cc jd ?_ ?_ ky.2).less (L':=(ti::(W.heap.size+1)::W.heap.size::L)) (fun k hk=>zF _ hk)
     ·simp only[MV.ss,td,zK]
      rfl
     ·simp only[MV.arr,zK]
      exact ky.1
    have Cj:=(cK fK).1.2.2.2.1
    have B5:=(cK fK).2 3
    refine hK _ _ ⟨fun _=>fK,?_⟩
    clear hK K dx cc jd ky js kN
    simp only[Act.put,zL]
    refine aN 8 (by kernel_rfl) rfl (fun K hK=>?_)
    go_simp
    refine hK _ _ ⟨fun _=>fK,?_⟩
    clear hK K
    refine aN 9 (by kernel_rfl) rfl (fun K hK=>?_)
    go_simp
    refine hK _ _ ⟨fun q=>absurd rfl q,?_⟩
    clear hK K Cj B5 fK
    refine cP (by kernel_rfl) ?_
    have hm:(w7.setCell ⟨W.heap.size,3,none⟩ (.slice a7 (ms.length+1) c7)).heap[W.heap.size]?=some (.cells #[.string nm,.slice fa fs.length fc,.slice oa os.length oc,.slice a7 (ms.length+1) c7,.slice ea es.length ec,.slice ra rs.length rc,.slice ga gs.length gc] 49 (0,0)):=by first|exact (aa eV).m|(have h1:=(aa eV).m;simp only[MV.arr,zK] at h1;exact h1)
    have hr:(w7.setCell ⟨W.heap.size,3,none⟩ (.slice a7 (ms.length+1) c7)).heap[W.heap.size+1]?=some (.cells #[.string ⟨#[]⟩,.slice none 0 0,.slice none 0 0,.slice none 0 0,.slice none 0 0,.slice none 0 0,.slice none 0 0] 49 (0,0)):=(aa eV).r
    have Wp:=seen hm
    have Wo:=seen hr
    have V2:=aS hr
    obtain ⟨t1,t2⟩:=dJ hr (.string nm) (.slice fa fs.length fc) (.slice oa os.length oc) (.slice a7 (ms.length+1) c7) (.slice ea es.length ec) (.slice ra rs.length rc) (.slice ga gs.length gc)
    have T1:=ab t1
    have T2:=ab ((aa eV).F.gu t2 (by omega))
    have T3:=ab ((aa eV).z.gu t2 (by omega))
    have T4:=ab (((aa eV).s.kept t2 (.inr (by simp))).less (L':=L) (fun k hk=>zF _ (zF _ (zF _ hk))))
    have T5:=ab (aa eV).og
    clear t1 t2 hm hr
    go_wp2
    refine bodyPost_ret (results_cell_row rfl _ _ (W.heap.size+1) 49 #[.string nm,.slice fa fs.length fc,.slice oa os.length oc,.slice a7 (ms.length+1) c7,.slice ea es.length ec,.slice ra rs.length rc,.slice ga gs.length gc] (0,0) _ rfl (aa T1) Tryz.underlying49 rfl jY) rfl ?_
    refine ⟨aa T2,by rw[←aa sg];exact aa T3,⟨nm,fs,os,ms++[(Ms.mk qn qf qo qm qe qr qg)],es,rs,gs⟩,⟨(fa,fc),(oa,oc),(a7,c7),(ea,ec),(ra,rc),(ga,gc),cm++([.string qn,.slice b1 qf.length d1,.slice b2 qo.length d2,.slice b3 qm.length d3,.slice b4 qe.length d4,.slice b5 qr.length d5,.slice b6 qg.length d6]:List Value),ce⟩,by first|rfl|(simp only[MV.arr,zK];done)|(simp only[MV.arr,zK];rfl),aa T4,aa T5,?_,aa lN⟩
    exact (aa HB).next (aa G1) (aa tj)
   by_cases h2:tt=⟨#[101,110,117,109]⟩
   ·subst h2
    go_upto_region 15 with fail
    have hT:w3.drew.heap[W.heap.size]?=some (.cells #[.string nm,.slice fa fs.length fc,.slice oa os.length oc,.slice ma ms.length mc,.slice ea es.length ec,.slice ra rs.length rc,.slice ga gs.length gc] 49 (0,0)):=(aa jb).m
    refine wp_region_any (by kernel_rfl) (dr (z:=7) (T:=fun w=>w.heap[W.heap.size]?=some (.cells #[.string nm,.slice fa fs.length fc,.slice oa os.length oc,.slice ma ms.length mc,.slice ea es.length ec,.slice ra rs.length rc,.slice ga gs.length gc] 49 (0,0))) _ _ _ _ ?_)
    try (change dI _ _ _ _ _ _ _ _ _ (World.drew _))
    refine aB 0 (.pointer (some ⟨W.heap.size,4,none⟩)) 67 rfl rfl (Or.inl ⟨by rfl,fun w hw=>by go_simp⟩) hT ?_
    simp only[Act.put,zL,zM,zN]
    refine aB 1 (.slice ea es.length ec) 68 rfl rfl (Or.inl ⟨by rfl,fun w hw=>by have c:=(cK hw).1.2.2.2.2.1;go_simp⟩) hT ?_
    simp only[Act.put,zL,zM,zN]
    refine aB 2 (.pointer (some ⟨b,0,none⟩)) 69 rfl rfl (Or.inl ⟨by rfl,fun w hw=>by go_simp⟩) hT ?_
    simp only[Act.put,zL,zM,zN]
    refine aN 3 (by kernel_rfl) rfl (fun K hK=>?_)
    refine eB 70 rfl rfl 41 (El _) #[.tmp 69] #[55] rfl #[.pointer (some ⟨b,0,none⟩)] (by first|rfl|simp[Act.eval]) (G5 (R:=.ok s0) (show Zr lo w3.drew b (.ok s0) from (aa jb).z.drew) (fun s e=>by cases e;exact bk.2 ⟨aa CL,aa oP⟩)) ?_
    rintro o6 w6 ⟨hg,hz,en,a1,c1,a2,c2,a3,c3,rfl,hS,hv⟩
    have cN:w3.grownBy w6 (some b):=⟨hg.os,hg.tape,hg.output,hg.size,hg.block⟩
    have jl:=ab ((aa jb).kept (aa HL) cN hz)
    have js:w6.heap[W.heap.size]?=some (.cells #[.string nm,.slice fa fs.length fc,.slice oa os.length oc,.slice ma ms.length mc,.slice ea es.length ec,.slice ra rs.length rc,.slice ga gs.length gc] 49 (0,0)):=(aa jl).m
    have Ow:=hS.alloc (.cells #[.string en.name,.slice a1 en.bS.length c1,.slice a2 en.res.length c2,.slice a3 en.gone.length c3] 71)
    have LC:l≤w3.heap.size:=by have:=(aa jb).F.size;omega
    have WW:Hid (fE (Nq l (w6.heap.size::(ti::(W.heap.size+1)::W.heap.size::L)) (MV.ss ⟨(fa,fc),(oa,oc),(ma,mc),(ea,ec),(ra,rc),(ga,gc),cm,ce⟩ ⟨nm,fs,os,ms,es,rs,gs⟩)) (w6.alloc (.cells #[.string en.name,.slice a1 en.bS.length c1,.slice a2 en.res.length c2,.slice a3 en.gone.length c3] 71)) [.string en.name,.slice a1 en.bS.length c1,.slice a2 en.res.length c2,.slice a3 en.gone.length c3] [en]):=by
     have q:∀(i:Nat) (sl:Slot),(ES en (.slice a1 en.bS.length c1) (.slice a2 en.res.length c2) (.slice a3 en.gone.length c3))[i]?=some sl→je (Nq l (w6.heap.size::(ti::(W.heap.size+1)::W.heap.size::L)) (MV.ss ⟨(fa,fc),(oa,oc),(ma,mc),(ea,ec),(ra,rc),(ga,gc),cm,ce⟩ ⟨nm,fs,os,ms,es,rs,gs⟩)) (w6.alloc (.cells #[.string en.name,.slice a1 en.bS.length c1,.slice a2 en.res.length c2,.slice a3 en.gone.length c3] 71)) sl.t sl.sz sl.v sl.n sl.xs:=fun i sl hi=>⟨ML (Ow.own i sl hi),fun k hk=>yt (aa jb).s LC ((hS.own i sl hi).lt k hk).1 ((hS.own i sl hi).lt k hk).2⟩
     exact .cons (q 0 _ rfl) (q 1 _ rfl) (q 2 _ rfl) .nil
    have dp:F0=OW ⟨nm,fs,os,ms,es,rs,gs⟩ (al (.ok s0) db):=(aa HF).trans (RI (aa CL) (aa oP))
    have sg:Hid (aT (al (.ok s0) db)=aT F0):=by
     show _=_
     rw[dp]
     cases al (.ok s0) db with
     |error y=>rfl
     |ok p=>rfl
    have lN:Hid (∀a s,F0=.ok (a,s)→a=(⟨nm,fs,os,ms,es++[en],rs,gs⟩:Mp)):=fun a s e=>by
     rw[dp] at e
     cases hr:al (.ok s0) db with
     |error y=>rw[hr] at e;cases e
     |ok p =>
      have h1:=hv p.1 p.2 hr
      rw[hr] at e
      obtain ⟨p1,p2⟩:=p
      dsimp only at h1
      subst h1
      cases e
      rfl
    have G1:Hid (bH ⟨nm,fs,os,ms,es++[en],rs,gs⟩≤bH ⟨nm,fs,os,ms,es,rs,gs⟩+50000):=by show _≤_;unfold bH;simp only[zK];show fs.length+os.length+ms.length+(es.length+1)+rs.length+gs.length≤_;omega
    clear dp hS Ow LC
    refine ⟨_,rfl,hK _ _ ⟨fun _=>js,?_⟩⟩
    clear hK K hg hz hv cN hT
    simp only[Act.put,zL,zM,zN]
    refine aN 4 (by kernel_rfl) rfl (fun K hK=>?_)
    go_simp
    refine hK _ _ ⟨fun _=>bL js _,?_⟩
    clear hK K
    refine aN 5 (by kernel_rfl) rfl (fun K hK=>?_)
    have Ad:W.heap.size≤w6.heap.size:=(aa jl).F.size
    have kN:=ab ((aa jl).s.alloc (.cells #[.string en.name,.slice a1 en.bS.length c1,.slice a2 en.res.length c2,.slice a3 en.gone.length c3] 71))
    refine dN rfl (.tmp 68) (.tmp 71) 25 rfl l 71 d0 (.agg #[.string ⟨#[]⟩,.slice none 0 0,.slice none 0 0,.slice none 0 0]) 4 88 Tryz.underlying25 Ae dz0 dz1 dz2 rfl (by decide) (.slice ea es.length ec) es.length (ce) (by first|rfl|simp[Act.eval]) ((aa kN).sl.own 3 _ rfl) ⟨w6.heap.size,0,none⟩ 1 1 [.string en.name,.slice a1 en.bS.length c1,.slice a2 en.res.length c2,.slice a3 en.gone.length c3] (by first|rfl|simp[Act.eval]) rfl (df _ _ _) (by simp[Value.oneCell']) (by have:=(aa HB).1;unfold bH at this;simp only at this;unfold maxLen;omega) (by have:=(aa HB).1;unfold bH at this;simp only at this;omega) (by rw[zJ];omega) ?_
    intro v7 w7 dx cc jd
    obtain ⟨a7,c7,rfl⟩:=bY dx
    have fK:w7.heap[W.heap.size]?=some (.cells #[.string nm,.slice fa fs.length fc,.slice oa os.length oc,.slice ma ms.length mc,.slice ea es.length ec,.slice ra rs.length rc,.slice ga gs.length gc] 49 (0,0)):=(aa kN).sl.lA (i:=3) rfl (by simp) (bL js _) cc
    have ky:=aC (j:=4) fK (.slice a7 (es.length+1) c7)
    have eV:Hid (nH W lo b l W.heap.size (W.heap.size+1) ti jX (ti::(W.heap.size+1)::W.heap.size::L) ⟨nm,fs,os,ms,es++[en],rs,gs⟩ ⟨(fa,fc),(oa,oc),(ma,mc),(a7,c7),(ra,rc),(ga,gc),cm,ce++([.string en.name,.slice a1 en.bS.length c1,.slice a2 en.res.length c2,.slice a3 en.gone.length c3]:List Value)⟩ (aT (al (.ok s0) db)) (w7.setCell ⟨W.heap.size,4,none⟩ (.slice a7 (es.length+1) c7))):=by
     refine (((aa jl).box (.cells #[.string en.name,.slice a1 en.bS.length c1,.slice a2 en.res.length c2,.slice a3 en.gone.length c3] 71)).PO (x':=⟨nm,fs,os,ms,es++[en],rs,gs⟩) (v':=⟨(fa,fc),(oa,oc),(ma,mc),(a7,c7),(ra,rc),(ga,gc),cm,ce++([.string en.name,.slice a1 en.bS.length c1,.slice a2 en.res.length c2,.slice a3 en.gone.length c3]:List Value)⟩) (aa HL).box ((aa jl).s.box _).ms (fE.app ((aa jl).s.box _).es (aa WW)) (i:=3) rfl dx cc jd ?_ ?_ ky.2).less (L':=(ti::(W.heap.size+1)::W.heap.size::L)) (fun k hk=>zF _ hk)
     ·simp only[MV.ss,td,zK]
      rfl
     ·simp only[MV.arr,zK]
      exact ky.1
    have Cj:=(cK fK).1.2.2.2.2.1
    have B5:=(cK fK).2 4
    refine hK _ _ ⟨fun _=>fK,?_⟩
    clear hK K dx cc jd ky js kN
    simp only[Act.put,zL]
    refine aN 6 (by kernel_rfl) rfl (fun K hK=>?_)
    go_simp
    refine hK _ _ ⟨fun _=>fK,?_⟩
    clear hK K
    refine aN 7 (by kernel_rfl) rfl (fun K hK=>?_)
    go_simp
    refine hK _ _ ⟨fun q=>absurd rfl q,?_⟩
    clear hK K Cj B5 fK
    refine cP (by kernel_rfl) ?_
    have hm:(w7.setCell ⟨W.heap.size,4,none⟩ (.slice a7 (es.length+1) c7)).heap[W.heap.size]?=some (.cells #[.string nm,.slice fa fs.length fc,.slice oa os.length oc,.slice ma ms.length mc,.slice a7 (es.length+1) c7,.slice ra rs.length rc,.slice ga gs.length gc] 49 (0,0)):=by first|exact (aa eV).m|(have h1:=(aa eV).m;simp only[MV.arr,zK] at h1;exact h1)
    have hr:(w7.setCell ⟨W.heap.size,4,none⟩ (.slice a7 (es.length+1) c7)).heap[W.heap.size+1]?=some (.cells #[.string ⟨#[]⟩,.slice none 0 0,.slice none 0 0,.slice none 0 0,.slice none 0 0,.slice none 0 0,.slice none 0 0] 49 (0,0)):=(aa eV).r
    have Wp:=seen hm
    have Wo:=seen hr
    have V2:=aS hr
    obtain ⟨t1,t2⟩:=dJ hr (.string nm) (.slice fa fs.length fc) (.slice oa os.length oc) (.slice ma ms.length mc) (.slice a7 (es.length+1) c7) (.slice ra rs.length rc) (.slice ga gs.length gc)
    have T1:=ab t1
    have T2:=ab ((aa eV).F.gu t2 (by omega))
    have T3:=ab ((aa eV).z.gu t2 (by omega))
    have T4:=ab (((aa eV).s.kept t2 (.inr (by simp))).less (L':=L) (fun k hk=>zF _ (zF _ (zF _ hk))))
    have T5:=ab (aa eV).og
    clear t1 t2 hm hr
    go_wp2
    refine bodyPost_ret (results_cell_row rfl _ _ (W.heap.size+1) 49 #[.string nm,.slice fa fs.length fc,.slice oa os.length oc,.slice ma ms.length mc,.slice a7 (es.length+1) c7,.slice ra rs.length rc,.slice ga gs.length gc] (0,0) _ rfl (aa T1) Tryz.underlying49 rfl jY) rfl ?_
    refine ⟨aa T2,by rw[←aa sg];exact aa T3,⟨nm,fs,os,ms,es++[en],rs,gs⟩,⟨(fa,fc),(oa,oc),(ma,mc),(a7,c7),(ra,rc),(ga,gc),cm,ce++([.string en.name,.slice a1 en.bS.length c1,.slice a2 en.res.length c2,.slice a3 en.gone.length c3]:List Value)⟩,by first|rfl|(simp only[MV.arr,zK];done)|(simp only[MV.arr,zK];rfl),aa T4,aa T5,?_,aa lN⟩
    exact (aa HB).next (aa G1) (aa tj)
   by_cases h3:tt=⟨#[111,110,101,111,102]⟩
   ·subst h3
    have VA:=(aa jb).m
    obtain ⟨⟨TZ,XT,TY,XS,cm4,cm5,cm6⟩,R7⟩:=cK (show w3.heap[W.heap.size]?=some (.cells #[.string nm,.slice fa fs.length fc,.slice oa os.length oc,.slice ma ms.length mc,.slice ea es.length ec,.slice ra rs.length rc,.slice ga gs.length gc] 49 (0,0)) from VA)
    clear R7 VA
    go_wp2_with fail
    refine (LS (L:=(ti::(W.heap.size+1)::W.heap.size::L)) (x:=⟨nm,fs,os,ms,es,rs,gs⟩) (v:=⟨(fa,fc),(oa,oc),(ma,mc),(ea,ec),(ra,rc),(ga,gc),cm,ce⟩) (aa jb).z ⟨hl.1,by have:=(aa jb).F.size;omega⟩ (aa jb).s (aa HB) ⟨_,rfl⟩ (fun s e=>by cases e;exact bk.2 ⟨aa CL,aa oP⟩)).mono ?_
    rintro e w4 ⟨hF,hz,⟨yn,yf,yo,ym,ye,yr,yg⟩,⟨⟨f1,f2⟩,⟨o1,o2⟩,⟨m1,m2⟩,⟨e1,e2⟩,⟨r1,r2⟩,⟨g1,g2⟩,QI,QJ⟩,rfl,hM,hO,Qn,dA⟩
    rw[←Ku] at hF hO
    have hr:w4.heap[W.heap.size+1]?=some (.cells #[.string ⟨#[]⟩,.slice none 0 0,.slice none 0 0,.slice none 0 0,.slice none 0 0,.slice none 0 0,.slice none 0 0] 49 (0,0)):=(hF.block _ (ib (aa jb).r) (by omega) (fun i sl hi hk=>(aa jb).s.sl.q i sl _ (by rw[←Ku];exact hi) hk (by simp))).trans (aa jb).r
    have hfo:F0=al (.ok s0) (fH ⟨nm,fs,os,ms,es,rs,gs⟩):=(aa HF).trans (NA (aa CL) (aa oP))
    rw[←hfo] at hz Qn dA
    obtain ⟨⟨xC,xB,xA,cr3,cr4,cr5,cr6⟩,dp⟩:=cK hr
    have uu:=dp 0
    have ur:=dp 1
    have uq:=dp 2
    have fr3:=dp 3
    have fr4:=dp 4
    have fr5:=dp 5
    have fr6:=dp 6
    obtain ⟨t1,t2⟩:=dJ hr (.string yn) (.slice f1 yf.length f2) (.slice o1 yo.length o2) (.slice m1 ym.length m2) (.slice e1 ye.length e2) (.slice r1 yr.length r2) (.slice g1 yg.length g2)
    have T1:=ab t1
    have T2:=ab (((aa jb).F.trans hF).gu t2 (by omega))
    have T3:=ab (hz.gu t2 (by omega))
    have T4:=ab ((hM.kept t2 (.inr (by simp))).less (L':=L) (fun k hk=>zF _ (zF _ (zF _ hk))))
    have T5:=ab (hO.back (aa jb).F.size)
    have T6:=ab Qn
    have T7:=ab dA
    clear t1 t2 hr dp hF hz hM hO Qn dA hfo TZ XT TY XS cm4 cm5 cm6
    unfold MV.arr
    go_wp2
    refine bodyPost_ret (results_cell_row rfl _ _ (W.heap.size+1) 49 #[.string yn,.slice f1 yf.length f2,.slice o1 yo.length o2,.slice m1 ym.length m2,.slice e1 ye.length e2,.slice r1 yr.length r2,.slice g1 yg.length g2] (0,0) _ rfl (aa T1) Tryz.underlying49 rfl jY) rfl ?_
    exact ⟨aa T2,aa T3,⟨yn,yf,yo,ym,ye,yr,yg⟩,⟨(f1,f2),(o1,o2),(m1,m2),(e1,e2),(r1,r2),(g1,g2),QI,QJ⟩,rfl,aa T4,aa T5,aa T6,aa T7⟩
   by_cases h4:tt=⟨#[114,101,115,101,114,118,101,100]⟩
   ·subst h4
    have VA:w3.heap[W.heap.size]?=some (.cells #[.string nm,.slice fa fs.length fc,.slice oa os.length oc,.slice ma ms.length mc,.slice ea es.length ec,.slice ra rs.length rc,.slice ga gs.length gc] 49 (0,0)):=(aa jb).m
    go_wp2_with fail
    refine (tq (aa jb).z (fun s e=>by cases e;exact bk.2 ⟨aa CL,aa oP⟩) false).mono ?_
    rintro e w4 ⟨hg,hz,v1,v2,l1,l2,rfl,Og,hlen,hv⟩
    have dp:F0=bO (al (.ok s0) (gF false)) (fun l s'=>.ok ((⟨nm,fs,os,ms,es,rs++l.1,gs++l.2⟩:Mp),s')):=(aa HF).trans (U0 (aa CL) (aa oP))
    have sg:Hid (aT (al (.ok s0) (gF false))=aT F0):=by
     show _=_
     rw[dp]
     cases al (.ok s0) (gF false) with
     |error y=>rfl
     |ok p=>rfl
    have lN:Hid (∀a s,F0=.ok (a,s)→a=(⟨nm,fs,os,ms,es,rs++l1,gs++l2⟩:Mp)):=fun a s e=>by
     rw[dp] at e
     cases hr:al (.ok s0) (gF false) with
     |error y=>rw[hr] at e;cases e
     |ok p =>
      have h1:=hv p.1 p.2 hr
      rw[hr] at e
      obtain ⟨p1,p2⟩:=p
      dsimp only at h1
      subst h1
      cases e
      rfl
    have G1:Hid (bH ⟨nm,fs,os,ms,es,rs++l1,gs++l2⟩≤bH ⟨nm,fs,os,ms,es,rs,gs⟩+50000):=by
     show _≤_
     have h1:=hlen.1
     have h2:=hlen.2
     unfold bH
     simp only[zK]
     omega
    have HBR:Hid (∀(i:Nat) (sl:Slot) (k:Nat),(MV.ss ⟨(fa,fc),(oa,oc),(ma,mc),(ea,ec),(ra,rc),(ga,gc),cm,ce⟩ ⟨nm,fs,os,ms,es,rs,gs⟩)[i]?=some sl→sl.v.ownBlock=some k→k<w3.heap.size):=fun i sl k h1 h2=>(((aa jb).s.sl.own i sl h1).lt k h2).2
    have IB:W.heap.size<w3.heap.size:=ib VA
    have P5:=ab ((aa jb).kept (aa HL) hg hz)
    have hm4:w4.heap[W.heap.size]?=some (.cells #[.string nm,.slice fa fs.length fc,.slice oa os.length oc,.slice ma ms.length mc,.slice ea es.length ec,.slice ra rs.length rc,.slice ga gs.length gc] 49 (0,0)):=(aa P5).m
    have Ul:=ab hm4
    have P7:=ab Og
    have CC:=ab hlen
    have abA:l≤w4.heap.size:=by have:=(aa P5).F.size;omega
    obtain ⟨va1,vc1,rfl⟩:=bY Og.r1
    obtain ⟨QG,QF,rfl⟩:=bY Og.r2
    clear hg hz Og hlen hv dp VA
    obtain ⟨⟨Wm,Wl,Wk,Wj,cx4,cx5,cx6⟩,AT⟩:=cK hm4
    have fx5:=AT 5
    clear AT hm4
    have O1:Hid (rs.length+l1.length≤maxLen):=by have:=(aa HB).1;unfold bH at this;simp only at this;have:=(aa CC).1;show _≤_;unfold maxLen;omega
    have O2:Hid ((rs.length+l1.length)*16≤140737488355328):=by have:=(aa HB).1;unfold bH at this;simp only at this;have:=(aa CC).1;show _≤_;omega
    have O3:Hid (gs.length+l2.length≤maxLen):=by have:=(aa HB).1;unfold bH at this;simp only at this;have:=(aa CC).2;show _≤_;unfold maxLen;omega
    have O4:Hid ((gs.length+l2.length)*16≤140737488355328):=by have:=(aa HB).1;unfold bH at this;simp only at this;have:=(aa CC).2;show _≤_;omega
    have LQ:Hid (∀w',w4.grownBy w' (Value.slice ra rs.length rc).ownBlock→w'.cell? ⟨W.heap.size,5,none⟩=some (.slice ra rs.length rc)∧w'.frozen? ⟨W.heap.size,5,none⟩=false):=fun w' hg=>by
     have h:=(aa P5).s.sl.lA (i:=4) (g:=W.heap.size) rfl (by simp) (aa Ul) hg
     exact ⟨(cK h).1.2.2.2.2.2.1,(cK h).2 5⟩
    go_upto_region 22 with (at_builtin;go_loud (refine iO rfl _ _ 47 rfl l 98 r0 (.agg #[.int .i64 0,.int .i64 0]) 2 16 Tryz.underlying47 Od rz0 rz1 rz2 rfl (by decide) (.slice ra rs.length rc) rs.length (qG rs) rfl ((aa P5).s.sl.own 4 _ rfl) (.slice va1 l1.length vc1) l1.length w3.heap.size (qG l1) rfl (aa P7).r1 (MA _) (aa O1) (aa O2) abA ?_;intro v4 w5 gz eM mG;have EM:=ab gz;have se:=ab eM;have Qc:=ab mG;obtain ⟨a4,c4,rfl⟩:=bY gz;obtain ⟨ab9,abR⟩:=aa LQ w5 eM;clear gz eM mG))
    have mH:w5.heap[W.heap.size]?=some (.cells #[.string nm,.slice fa fs.length fc,.slice oa os.length oc,.slice ma ms.length mc,.slice ea es.length ec,.slice ra rs.length rc,.slice ga gs.length gc] 49 (0,0)):=(aa P5).s.sl.lA (i:=4) (g:=W.heap.size) rfl (by simp) (aa Ul) (aa se)
    have ky:=aC (j:=5) mH (.slice a4 (rs.length+l1.length) c4)
    have X8:Hid (nH W lo b l W.heap.size (W.heap.size+1) ti jX (ti::(W.heap.size+1)::W.heap.size::L) ⟨nm,fs,os,ms,es,rs++l1,gs⟩ ⟨(fa,fc),(oa,oc),(ma,mc),(ea,ec),(a4,c4),(ga,gc),cm,ce⟩ (aT (al (.ok s0) (gF false))) (w5.setCell ⟨W.heap.size,5,none⟩ (.slice a4 (rs.length+l1.length) c4))):=by
     refine (aa P5).app (x':=⟨nm,fs,os,ms,es,rs++l1,gs⟩) (v':=⟨(fa,fc),(oa,oc),(ma,mc),(ea,ec),(a4,c4),(ga,gc),cm,ce⟩) (aa HL) (i:=4) rfl (aa EM) (aa se) (aa Qc) ?_ rfl rfl rfl rfl ?_ ky.2
     ·simp only[MV.ss,td,zK,xk]
      rfl
     ·simp only[MV.arr,zK]
      exact ky.1
    have H27:Hid ((w5.setCell ⟨W.heap.size,5,none⟩ (.slice a4 (rs.length+l1.length) c4)).ownsRow w3.heap.size 9 1 (.slice QG l2.length QF) l2.length (dR l2)):=by
     refine ((aa P7).r2.kept (aa se) ?_).kept ky.2 ?_
     ·by_cases e:(Value.slice QG l2.length QF).ownBlock=none
      ·exact .inl e
      ·refine .inr (fun q=>?_)
       obtain ⟨m,hm⟩:=Option.ne_none_iff_exists'.1 e
       have h1:=((aa P7).r2.lt m hm).1
       have h2:=aa HBR 4 _ m rfl (by rw[←q];exact hm)
       omega
     ·by_cases e:(Value.slice QG l2.length QF).ownBlock=none
      ·exact .inl e
      ·refine .inr (fun q=>?_)
       have h1:=((aa P7).r2.lt W.heap.size q).1
       omega
    have abz:l≤(w5.setCell ⟨W.heap.size,5,none⟩ (.slice a4 (rs.length+l1.length) c4)).heap.size:=by have:=(aa X8).F.size;omega
    have P9:Hid ((w5.setCell ⟨W.heap.size,5,none⟩ (.slice a4 (rs.length+l1.length) c4)).heap[W.heap.size]?=some (.cells #[.string nm,.slice fa fs.length fc,.slice oa os.length oc,.slice ma ms.length mc,.slice ea es.length ec,.slice a4 (rs.length+l1.length) c4,.slice ga gs.length gc] 49 (0,0))):=ky.1
    clear mH ky Wm Wl Wk Wj cx4 cx5 cx6 fx5 ab9 abR LQ EM se Qc P5 Ul P7 HBR
    obtain ⟨⟨Wm,Wl,Wk,Wj,cx4,cx5,cx6⟩,AT⟩:=cK (aa P9)
    have fx6:=AT 6
    clear AT
    have LQ:Hid (∀w',(w5.setCell ⟨W.heap.size,5,none⟩ (.slice a4 (rs.length+l1.length) c4)).grownBy w' (Value.slice ga gs.length gc).ownBlock→w'.cell? ⟨W.heap.size,6,none⟩=some (.slice ga gs.length gc)∧w'.frozen? ⟨W.heap.size,6,none⟩=false):=fun w' hg=>by
     have h:=(aa X8).s.sl.lA (i:=5) (g:=W.heap.size) rfl (by simp) (aa P9) hg
     exact ⟨(cK h).1.2.2.2.2.2.2,(cK h).2 6⟩
    go_upto_region 23 with (at_builtin;go_loud (refine iO rfl _ _ 22 rfl l 9 i0 (.string ⟨#[]⟩) 1 16 Tryz.underlying22 hi zy zx jK rfl (by decide) (.slice ga gs.length gc) gs.length (dR gs) rfl ((aa X8).s.sl.own 5 _ rfl) (.slice QG l2.length QF) l2.length w3.heap.size (dR l2) rfl (aa H27) (Ih _) (aa O3) (aa O4) abz ?_;intro v5 w6 oo kZ D3;have QA:=ab oo;have Jq:=ab kZ;have Yh:=ab D3;obtain ⟨a5,c5,rfl⟩:=bY oo;obtain ⟨ab8,abQ⟩:=aa LQ w6 kZ;clear oo kZ D3))
    have js:w6.heap[W.heap.size]?=some (.cells #[.string nm,.slice fa fs.length fc,.slice oa os.length oc,.slice ma ms.length mc,.slice ea es.length ec,.slice a4 (rs.length+l1.length) c4,.slice ga gs.length gc] 49 (0,0)):=(aa X8).s.sl.lA (i:=5) (g:=W.heap.size) rfl (by simp) (aa P9) (aa Jq)
    have ky:=aC (j:=6) js (.slice a5 (gs.length+l2.length) c5)
    have eV:Hid (nH W lo b l W.heap.size (W.heap.size+1) ti jX (ti::(W.heap.size+1)::W.heap.size::L) ⟨nm,fs,os,ms,es,rs++l1,gs++l2⟩ ⟨(fa,fc),(oa,oc),(ma,mc),(ea,ec),(a4,c4),(a5,c5),cm,ce⟩ (aT (al (.ok s0) (gF false))) (w6.setCell ⟨W.heap.size,6,none⟩ (.slice a5 (gs.length+l2.length) c5))):=by
     refine (aa X8).app (x':=⟨nm,fs,os,ms,es,rs++l1,gs++l2⟩) (v':=⟨(fa,fc),(oa,oc),(ma,mc),(ea,ec),(a4,c4),(a5,c5),cm,ce⟩) (aa HL) (i:=5) rfl (aa QA) (aa Jq) (aa Yh) ?_ rfl rfl rfl rfl ?_ ky.2
     ·simp only[MV.ss,td,zK,mu]
      rfl
     ·simp only[MV.arr,zK]
      exact ky.1
    clear js ky Wm Wl Wk Wj cx4 cx5 cx6 fx6 ab8 abQ LQ QA Jq Yh X8 P9 H27
    have hm:(w6.setCell ⟨W.heap.size,6,none⟩ (.slice a5 (gs.length+l2.length) c5)).heap[W.heap.size]?=some (.cells #[.string nm,.slice fa fs.length fc,.slice oa os.length oc,.slice ma ms.length mc,.slice ea es.length ec,.slice a4 (rs.length+l1.length) c4,.slice a5 (gs.length+l2.length) c5] 49 (0,0)):=by first|exact (aa eV).m|(have h1:=(aa eV).m;simp only[MV.arr,zK] at h1;exact h1)
    have hr:(w6.setCell ⟨W.heap.size,6,none⟩ (.slice a5 (gs.length+l2.length) c5)).heap[W.heap.size+1]?=some (.cells #[.string ⟨#[]⟩,.slice none 0 0,.slice none 0 0,.slice none 0 0,.slice none 0 0,.slice none 0 0,.slice none 0 0] 49 (0,0)):=(aa eV).r
    have Wp:=seen hm
    have Wo:=seen hr
    have V2:=aS hr
    obtain ⟨t1,t2⟩:=dJ hr (.string nm) (.slice fa fs.length fc) (.slice oa os.length oc) (.slice ma ms.length mc) (.slice ea es.length ec) (.slice a4 (rs.length+l1.length) c4) (.slice a5 (gs.length+l2.length) c5)
    have T1:=ab t1
    have T2:=ab ((aa eV).F.gu t2 (by omega))
    have T3:=ab ((aa eV).z.gu t2 (by omega))
    have T4:=ab (((aa eV).s.kept t2 (.inr (by simp))).less (L':=L) (fun k hk=>zF _ (zF _ (zF _ hk))))
    have T5:=ab (aa eV).og
    clear t1 t2 hm hr
    go_wp2
    refine bodyPost_ret (results_cell_row rfl _ _ (W.heap.size+1) 49 #[.string nm,.slice fa fs.length fc,.slice oa os.length oc,.slice ma ms.length mc,.slice ea es.length ec,.slice a4 (rs.length+l1.length) c4,.slice a5 (gs.length+l2.length) c5] (0,0) _ rfl (aa T1) Tryz.underlying49 rfl jY) rfl ?_
    refine ⟨aa T2,by rw[←aa sg];exact aa T3,⟨nm,fs,os,ms,es,rs++l1,gs++l2⟩,⟨(fa,fc),(oa,oc),(ma,mc),(ea,ec),(a4,c4),(a5,c5),cm,ce⟩,by first|rfl|(simp only[MV.arr,zK];done)|(simp only[MV.arr,zK];rfl),aa T4,aa T5,?_,aa lN⟩
    exact (aa HB).next (aa G1) (aa tj)
   by_cases h5:tt=⟨#[109,97,112]⟩
   focus
    subst h5
    obtain ⟨KA,v9,TL,i,Af,ht9,XG,hi9,hL9⟩:=(aa jb).z.1
    obtain ⟨a9,c9,rfl,hc9,hm9,KL⟩:=ht9
    obtain ⟨⟨pA,pz,pS,pR,sZ,qE⟩,jA⟩:=bE Af
    clear jA Af pS pR sZ qE
    obtain ⟨j,AQ⟩:∃j:Nat,j=i+1:=⟨_,rfl⟩
    have Qo:wrap64 ((i:Int)+1)=(j:Int):=by rw[AQ];exact eJ ⟨by omega,by omega⟩
    have CG:s0.ts=TL.drop i:=XG.symm
    have HAH:Hid (∀t,TL[j]?=some t→s0.ahead 1=t):=fun t ht=>by
     unfold ay.ahead
     rw[CG,List.getD_eq_getElem?_getD,List.getElem?_drop,←AQ,ht]
     rfl
    have HAN:Hid (¬j<TL.length→s0.ahead 1=s0.en):=fun hn=>by
     unfold ay.ahead
     rw[CG,List.getD_eq_getElem?_getD,List.getElem?_drop,←AQ,List.getElem?_eq_none (Nat.le_of_not_lt hn)]
     rfl
    clear XG CG AQ hi9
    by_cases dB:j<TL.length
    focus
     have hq:decide ((j:Int)<(TL.length:Int))=true:=by simp;omega
     obtain ⟨g,off,rfl,tN,adt,tK⟩:=KL (by omega)
     obtain ⟨⟨tk9,tp9,tx9⟩,ht⟩:∃t,TL[j]?=some t:=⟨_,List.getElem?_eq_getElem dB⟩
     obtain ⟨x1,x2,x3⟩:=tK j _ ht
     have E8:=ab (aa HAH _ ht)
     have i0:(0:Int)≤(j:Int):=zH _
     have i1:(j:Int)<(TL.length:Int):=by omega
     clear tK ht KL HAH HAN dB
     by_cases k9:tk9=4
     focus
      subst k9
      by_cases x9:tx9=⟨#[60]⟩
      ·subst x9
       have Lu:Hid (aJ (s0.ahead 1) 4 ⟨#[60]⟩=true):=by rw[aa E8];exact bk.2 ⟨rfl,rfl⟩
       have HMB:=ab (U4 (mf:=mf) (x:=⟨nm,fs,os,ms,es,rs,gs⟩) (aa CL) (aa oP) (aa Lu))
       clear E8 Lu h1 h2 h3 h4
       go_upto_region 25 with fail
       go_quiet (fail)
       clear pA pz Qo hq x1 x2 x3 i0 i1
       have WL:Hid (nH W lo b l W.heap.size (W.heap.size+1) ti jX (ti::(W.heap.size+1)::W.heap.size::L) ⟨nm,fs,os,ms,es,rs,gs⟩ ⟨(fa,fc),(oa,oc),(ma,mc),(ea,ec),(ra,rc),(ga,gc),cm,ce⟩ (.ok s0) (w3.drewN nq)):=(aa jb).kept (aa HL) ⟨rfl,rfl,rfl,zD _,fun _ _ _=>rfl⟩ ((aa jb).z.Uv ⟨rfl,rfl,rfl,zD _,fun _ _=>rfl⟩)
       obtain ⟨w3,Ly⟩:∃w9,w9=w3.drewN nq:=⟨_,rfl⟩
       rw[←Ly] at WL ⊢
       clear jb EZ EY EX E3 Ly
       have jb:=WL
       clear WL
       go_upto_region 26 with fail
       have hT:w3.drew.heap[W.heap.size]?=some (.cells #[.string nm,.slice fa fs.length fc,.slice oa os.length oc,.slice ma ms.length mc,.slice ea es.length ec,.slice ra rs.length rc,.slice ga gs.length gc] 49 (0,0)):=(aa jb).m
       refine wp_region_any (by kernel_rfl) (dr (z:=7) (T:=fun w=>w.heap[W.heap.size]?=some (.cells #[.string nm,.slice fa fs.length fc,.slice oa os.length oc,.slice ma ms.length mc,.slice ea es.length ec,.slice ra rs.length rc,.slice ga gs.length gc] 49 (0,0))) _ _ _ _ ?_)
       try (change dI _ _ _ _ _ _ _ _ _ (World.drew _))
       refine aB 0 (.pointer (some ⟨W.heap.size,1,none⟩)) 141 rfl rfl (Or.inl ⟨by rfl,fun w hw=>by go_simp⟩) hT ?_
       simp only[Act.put,zL,zM,zN]
       refine aB 1 (.slice fa fs.length fc) 142 rfl rfl (Or.inl ⟨by rfl,fun w hw=>by have c:=(cK hw).1.2.1;go_simp⟩) hT ?_
       simp only[Act.put,zL,zM,zN]
       refine aB 2 (.pointer (some ⟨b,0,none⟩)) 143 rfl rfl (Or.inl ⟨by rfl,fun w hw=>by go_simp⟩) hT ?_
       simp only[Act.put,zL,zM,zN]
       refine aN 3 (by kernel_rfl) rfl (fun K hK=>?_)
       refine eB 144 rfl rfl 110 (GB _) #[.tmp 143] #[55] rfl #[.pointer (some ⟨b,0,none⟩)] (by first|rfl|simp[Act.eval]) (Jx (R:=.ok s0) (show Zr lo w3.drew b (.ok s0) from (aa jb).z.drew) (fun s e=>by cases e;exact aa CL)) ?_
       rintro o6 w6 ⟨hg,hz,v6,rfl,⟨⟨dc,dk,dt,dn,dm,dq⟩,rfl⟩,hv⟩
       have cN:w3.grownBy w6 (some b):=⟨hg.os,hg.tape,hg.output,hg.size,hg.block⟩
       have jl:=ab ((aa jb).kept (aa HL) cN hz)
       have js:w6.heap[W.heap.size]?=some (.cells #[.string nm,.slice fa fs.length fc,.slice oa os.length oc,.slice ma ms.length mc,.slice ea es.length ec,.slice ra rs.length rc,.slice ga gs.length gc] 49 (0,0)):=(aa jl).m
       have zz:∀a s,al (.ok s0) lu=.ok (a,s)→a=(⟨dc,dk,dt,dn,dm,dq⟩:Fd):=fun a s e=>by
        have h1:=hv a s e
        obtain ⟨q1,q2,q3,q4,q5,q6⟩:=a
        simp only[Fd.val,Fd.arr,Value.agg.injEq,Array.mk.injEq,List.cons.injEq,Value.int.injEq,Value.string.injEq,true_and,and_true] at h1
        obtain ⟨rfl,rfl,rfl,rfl,rfl,rfl⟩:=h1
        rfl
       have dp:F0=lV ⟨nm,fs,os,ms,es,rs,gs⟩ (al (.ok s0) lu):=(aa HF).trans (aa HMB)
       have sg:Hid (aT (al (.ok s0) lu)=aT F0):=by
        show _=_
        rw[dp]
        cases al (.ok s0) lu with
        |error y=>rfl
        |ok p=>rfl
       have lN:Hid (∀a s,F0=.ok (a,s)→a=(⟨nm,fs++[(⟨dc,dk,dt,dn,dm,dq⟩:Fd)],os,ms,es,rs,gs⟩:Mp)):=fun a s e=>by
        rw[dp] at e
        cases hr:al (.ok s0) lu with
        |error y=>rw[hr] at e;cases e
        |ok p =>
         have:=zz p.1 p.2 hr
         rw[hr] at e
         obtain ⟨p1,p2⟩:=p
         dsimp only at this
         subst this
         cases e
         rfl
       have G1:Hid (bH ⟨nm,fs++[(⟨dc,dk,dt,dn,dm,dq⟩:Fd)],os,ms,es,rs,gs⟩≤bH ⟨nm,fs,os,ms,es,rs,gs⟩+50000):=by show _≤_;unfold bH;simp only[zK];show fs.length+1+os.length+ms.length+es.length+rs.length+gs.length≤_;omega
       clear zz dp
       refine ⟨_,rfl,hK _ _ ⟨fun _=>js,?_⟩⟩
       clear hK K hg hz hv cN hT
       simp only[Act.put,zL,zM,zN,Fd.val,Fd.arr]
       refine aN 4 (by kernel_rfl) rfl (fun K hK=>?_)
       go_simp
       refine hK _ _ ⟨fun _=>bL js _,?_⟩
       clear hK K
       refine aN 5 (by kernel_rfl) rfl (fun K hK=>?_)
       have Ad:W.heap.size≤w6.heap.size:=(aa jl).F.size
       have kN:=ab ((aa jl).s.alloc (.cells #[.int .i64 dc,.string dk,.string dt,.string dn,.int .i64 dm,.int .i64 dq] 45))
       refine dN rfl (.tmp 142) (.tmp 145) 46 rfl l 45 j0 (.agg #[.int .i64 0,.string ⟨#[]⟩,.string ⟨#[]⟩,.string ⟨#[]⟩,.int .i64 0,.int .i64 0]) 6 72 Tryz.underlying46 hj Tq Tp To rfl (by decide) (.slice fa fs.length fc) fs.length (mI fs) (by first|rfl|simp[Act.eval]) ((aa kN).sl.own 0 _ rfl) ⟨w6.heap.size,0,none⟩ 1 1 [.int .i64 dc,.string dk,.string dt,.string dn,.int .i64 dm,.int .i64 dq] (by first|rfl|simp[Act.eval]) rfl (df _ _ _) (by simp[Value.oneCell']) (by have:=(aa HB).1;unfold bH at this;simp only at this;unfold maxLen;omega) (by have:=(aa HB).1;unfold bH at this;simp only at this;omega) (by rw[zJ];omega) ?_
       intro v7 w7 dx cc jd
       obtain ⟨a7,c7,rfl⟩:=bY dx
       have fK:w7.heap[W.heap.size]?=some (.cells #[.string nm,.slice fa fs.length fc,.slice oa os.length oc,.slice ma ms.length mc,.slice ea es.length ec,.slice ra rs.length rc,.slice ga gs.length gc] 49 (0,0)):=(aa kN).sl.lA (i:=0) rfl (by simp) (bL js _) cc
       have ky:=aC (j:=1) fK (.slice a7 (fs.length+1) c7)
       have eV:Hid (nH W lo b l W.heap.size (W.heap.size+1) ti jX (ti::(W.heap.size+1)::W.heap.size::L) ⟨nm,fs++[(⟨dc,dk,dt,dn,dm,dq⟩:Fd)],os,ms,es,rs,gs⟩ ⟨(a7,c7),(oa,oc),(ma,mc),(ea,ec),(ra,rc),(ga,gc),cm,ce⟩ (aT (al (.ok s0) lu)) (w7.setCell ⟨W.heap.size,1,none⟩ (.slice a7 (fs.length+1) c7))):=by
        refine (((aa jl).box (.cells #[.int .i64 dc,.string dk,.string dt,.string dn,.int .i64 dm,.int .i64 dq] 45)).app (x':=⟨nm,fs++[(⟨dc,dk,dt,dn,dm,dq⟩:Fd)],os,ms,es,rs,gs⟩) (v':=⟨(a7,c7),(oa,oc),(ma,mc),(ea,ec),(ra,rc),(ga,gc),cm,ce⟩) (aa HL).box (i:=0) rfl dx cc jd ?_ rfl rfl rfl rfl ?_ ky.2).less (L':=(ti::(W.heap.size+1)::W.heap.size::L)) (fun k hk=>zF _ hk)
        ·simp only[MV.ss,td,zK,rH]
         rfl
        ·simp only[MV.arr,zK]
         exact ky.1
       have Cj:=(cK fK).1.2.1
       have B5:=(cK fK).2 1
       refine hK _ _ ⟨fun _=>fK,?_⟩
       clear hK K dx cc jd ky js kN
       simp only[Act.put,zL]
       refine aN 6 (by kernel_rfl) rfl (fun K hK=>?_)
       go_simp
       refine hK _ _ ⟨fun _=>fK,?_⟩
       clear hK K
       refine aN 7 (by kernel_rfl) rfl (fun K hK=>?_)
       go_simp
       refine hK _ _ ⟨fun q=>absurd rfl q,?_⟩
       clear hK K Cj B5 fK
       refine cP (by kernel_rfl) ?_
       have hm:(w7.setCell ⟨W.heap.size,1,none⟩ (.slice a7 (fs.length+1) c7)).heap[W.heap.size]?=some (.cells #[.string nm,.slice a7 (fs.length+1) c7,.slice oa os.length oc,.slice ma ms.length mc,.slice ea es.length ec,.slice ra rs.length rc,.slice ga gs.length gc] 49 (0,0)):=by first|exact (aa eV).m|(have h1:=(aa eV).m;simp only[MV.arr,zK] at h1;exact h1)
       have hr:(w7.setCell ⟨W.heap.size,1,none⟩ (.slice a7 (fs.length+1) c7)).heap[W.heap.size+1]?=some (.cells #[.string ⟨#[]⟩,.slice none 0 0,.slice none 0 0,.slice none 0 0,.slice none 0 0,.slice none 0 0,.slice none 0 0] 49 (0,0)):=(aa eV).r
       have Wp:=seen hm
       have Wo:=seen hr
       have V2:=aS hr
       obtain ⟨t1,t2⟩:=dJ hr (.string nm) (.slice a7 (fs.length+1) c7) (.slice oa os.length oc) (.slice ma ms.length mc) (.slice ea es.length ec) (.slice ra rs.length rc) (.slice ga gs.length gc)
       have T1:=ab t1
       have T2:=ab ((aa eV).F.gu t2 (by omega))
       have T3:=ab ((aa eV).z.gu t2 (by omega))
       have T4:=ab (((aa eV).s.kept t2 (.inr (by simp))).less (L':=L) (fun k hk=>zF _ (zF _ (zF _ hk))))
       have T5:=ab (aa eV).og
       clear t1 t2 hm hr
       go_wp2
       refine bodyPost_ret (results_cell_row rfl _ _ (W.heap.size+1) 49 #[.string nm,.slice a7 (fs.length+1) c7,.slice oa os.length oc,.slice ma ms.length mc,.slice ea es.length ec,.slice ra rs.length rc,.slice ga gs.length gc] (0,0) _ rfl (aa T1) Tryz.underlying49 rfl jY) rfl ?_
       refine ⟨aa T2,by rw[←aa sg];exact aa T3,⟨nm,fs++[(⟨dc,dk,dt,dn,dm,dq⟩:Fd)],os,ms,es,rs,gs⟩,⟨(a7,c7),(oa,oc),(ma,mc),(ea,ec),(ra,rc),(ga,gc),cm,ce⟩,by first|rfl|(simp only[MV.arr,zK];done)|(simp only[MV.arr,zK];rfl),aa T4,aa T5,?_,aa lN⟩
       exact (aa HB).next (aa G1) (aa tj)
      have n1:(tx9.toList==[60])=false:=tC x9
      have HNO:Hid (¬aJ (s0.ahead 1) 4 ⟨#[60]⟩=true):=by rw[aa E8];exact fun q=>x9 (bk.1 q).2
      clear x9 E8
      go_upto_region 25 with fail
      go_quiet (fail)
      clear pA pz Qo hq x1 x2 x3 i0 i1 n1
     rotate_left
     focus
      have n1:(tk9==4)=false:=by simpa using k9
      have HNO:Hid (¬aJ (s0.ahead 1) 4 ⟨#[60]⟩=true):=by rw[aa E8];exact fun q=>k9 (bk.1 q).1
      clear k9 E8
      go_upto_region 25 with fail
      go_quiet (fail)
      clear pA pz Qo hq x1 x2 x3 i0 i1 n1
    rotate_left 2
    focus
     have hq:decide ((j:Int)<(TL.length:Int))=false:=by simp;omega
     have lG:decide (j<TL.length)=false:=by simp;omega
     have HNO:Hid (¬aJ (s0.ahead 1) 4 ⟨#[60]⟩=true):=by rw[aa HAN dB];exact gj (by rw[(aa zT).en];decide) _
     clear KL HAH HAN dB
     go_upto_region 25 with fail
     go_quiet (fail)
     clear pA pz Qo hq lG
    all_goals
     have HMB:Hid (nI mf ⟨nm,fs,os,ms,es,rs,gs⟩ s0=lV ⟨nm,fs,os,ms,es,rs,gs⟩ (fX s0)):=yy (fun q=>absurd ((aa CL).symm.trans (bk.1 q).1) (by decide)) (.inl (aa CL)) (fun W hW q=>by
      have e:=(aa oP).symm.trans (bk.1 q).2
      simp only[List.mem_cons,List.not_mem_nil,or_false] at hW
      rcases hW with rfl|rfl|rfl|rfl<;>exact absurd e (cb (by decide +kernel))) (fun q=>aa HNO q.2)
     clear h1 h2 h3 h4
     have WL:Hid (nH W lo b l W.heap.size (W.heap.size+1) ti jX (ti::(W.heap.size+1)::W.heap.size::L) ⟨nm,fs,os,ms,es,rs,gs⟩ ⟨(fa,fc),(oa,oc),(ma,mc),(ea,ec),(ra,rc),(ga,gc),cm,ce⟩ (.ok s0) (w3.drewN nq)):=(aa jb).kept (aa HL) ⟨rfl,rfl,rfl,zD _,fun _ _ _=>rfl⟩ ((aa jb).z.Uv ⟨rfl,rfl,rfl,zD _,fun _ _=>rfl⟩)
     obtain ⟨w3,Ly⟩:∃w9,w9=w3.drewN nq:=⟨_,rfl⟩
     rw[←Ly] at WL ⊢
     clear jb EZ EY EX E3 Ly
     have jb:=WL
     clear WL
   rotate_left 3
   have HMB:Hid (nI mf ⟨nm,fs,os,ms,es,rs,gs⟩ s0=lV ⟨nm,fs,os,ms,es,rs,gs⟩ (fX s0)):=yy (fun q=>absurd ((aa CL).symm.trans (bk.1 q).1) (by decide)) (.inl (aa CL)) (fun W hW q=>by
    have e:=(aa oP).symm.trans (bk.1 q).2
    simp only[List.mem_cons,List.not_mem_nil,or_false] at hW
    rcases hW with rfl|rfl|rfl|rfl
    ·exact h1 e
    ·exact h2 e
    ·exact h3 e
    ·exact h4 e) (fun q=>h5 ((aa oP).symm.trans (bk.1 q.1).2))
   have n1:(tt.toList==[109,101,115,115,97,103,101])=false:=tC h1
   have n2:(tt.toList==[101,110,117,109])=false:=tC h2
   have n3:(tt.toList==[111,110,101,111,102])=false:=tC h3
   have n4:(tt.toList==[114,101,115,101,114,118,101,100])=false:=tC h4
   have n5:(tt.toList==[109,97,112])=false:=tC h5
   clear h1 h2 h3 h4 h5
  rotate_left 4
  ·have n1:(kt==4)=false:=by simpa using k4
   have n3:(kt != 1)=true:=by simpa using k1
   obtain ⟨eF,kl⟩:=DH (aa pB) (aa HF) k1 (fun q=>k4 q.1) (fun q=>k4 q.1)
   have HW1:=ab eF
   have Lr:=ab kl
   clear eF kl k1 k4
   go_wp2_with fail
   refine (kO (aa jb).z).mono ?_
   rintro e w4 ⟨rfl,hg,hz⟩
   have eV:=ab ((aa jb).kept (aa HL) hg hz)
   have sg:=HW1
   have lN:=Lr
   have G1:Hid (bH ⟨nm,fs,os,ms,es,rs,gs⟩≤bH ⟨nm,fs,os,ms,es,rs,gs⟩+50000):=Nat.le_add_right _ _
   clear hg hz
   have hm:w4.heap[W.heap.size]?=some (.cells #[.string nm,.slice fa fs.length fc,.slice oa os.length oc,.slice ma ms.length mc,.slice ea es.length ec,.slice ra rs.length rc,.slice ga gs.length gc] 49 (0,0)):=by first|exact (aa eV).m|(have h1:=(aa eV).m;simp only[MV.arr,zK] at h1;exact h1)
   have hr:w4.heap[W.heap.size+1]?=some (.cells #[.string ⟨#[]⟩,.slice none 0 0,.slice none 0 0,.slice none 0 0,.slice none 0 0,.slice none 0 0,.slice none 0 0] 49 (0,0)):=(aa eV).r
   have Wp:=seen hm
   have Wo:=seen hr
   have V2:=aS hr
   obtain ⟨t1,t2⟩:=dJ hr (.string nm) (.slice fa fs.length fc) (.slice oa os.length oc) (.slice ma ms.length mc) (.slice ea es.length ec) (.slice ra rs.length rc) (.slice ga gs.length gc)
   have T1:=ab t1
   have T2:=ab ((aa eV).F.gu t2 (by omega))
   have T3:=ab ((aa eV).z.gu t2 (by omega))
   have T4:=ab (((aa eV).s.kept t2 (.inr (by simp))).less (L':=L) (fun k hk=>zF _ (zF _ (zF _ hk))))
   have T5:=ab (aa eV).og
   clear t1 t2 hm hr
   go_wp2
   refine bodyPost_ret (results_cell_row rfl _ _ (W.heap.size+1) 49 #[.string nm,.slice fa fs.length fc,.slice oa os.length oc,.slice ma ms.length mc,.slice ea es.length ec,.slice ra rs.length rc,.slice ga gs.length gc] (0,0) _ rfl (aa T1) Tryz.underlying49 rfl jY) rfl ?_
   refine ⟨aa T2,by rw[←aa sg];exact aa T3,⟨nm,fs,os,ms,es,rs,gs⟩,⟨(fa,fc),(oa,oc),(ma,mc),(ea,ec),(ra,rc),(ga,gc),cm,ce⟩,by first|rfl|(simp only[MV.arr,zK];done)|(simp only[MV.arr,zK];rfl),aa T4,aa T5,?_,aa lN⟩
   exact (aa HB).next (aa G1) (aa tj)
 all_goals
  go_upto_region 28 with fail
  have hT:w3.drew.heap[W.heap.size]?=some (.cells #[.string nm,.slice fa fs.length fc,.slice oa os.length oc,.slice ma ms.length mc,.slice ea es.length ec,.slice ra rs.length rc,.slice ga gs.length gc] 49 (0,0)):=(aa jb).m
  refine wp_region_any (by kernel_rfl) (dr (z:=7) (T:=fun w=>w.heap[W.heap.size]?=some (.cells #[.string nm,.slice fa fs.length fc,.slice oa os.length oc,.slice ma ms.length mc,.slice ea es.length ec,.slice ra rs.length rc,.slice ga gs.length gc] 49 (0,0))) _ _ _ _ ?_)
  try (change dI _ _ _ _ _ _ _ _ _ (World.drew _))
  refine aB 0 (.pointer (some ⟨W.heap.size,1,none⟩)) 149 rfl rfl (Or.inl ⟨by rfl,fun w hw=>by go_simp⟩) hT ?_
  simp only[Act.put,zL,zM,zN]
  refine aB 1 (.slice fa fs.length fc) 150 rfl rfl (Or.inl ⟨by rfl,fun w hw=>by have c:=(cK hw).1.2.1;go_simp⟩) hT ?_
  simp only[Act.put,zL,zM,zN]
  refine aB 2 (.pointer (some ⟨b,0,none⟩)) 151 rfl rfl (Or.inl ⟨by rfl,fun w hw=>by go_simp⟩) hT ?_
  simp only[Act.put,zL,zM,zN]
  refine aN 3 (by kernel_rfl) rfl (fun K hK=>?_)
  refine eB 152 rfl rfl 111 (K9 _) #[.tmp 151] #[55] rfl #[.pointer (some ⟨b,0,none⟩)] (by first|rfl|simp[Act.eval]) (LU (show Zr lo w3.drew b (.ok s0) from (aa jb).z.drew)) ?_
  rintro o6 w6 ⟨hg,hz,v6,rfl,⟨⟨dc,dk,dt,dn,dm,dq⟩,rfl⟩,hv⟩
  have cN:w3.grownBy w6 (some b):=⟨hg.os,hg.tape,hg.output,hg.size,hg.block⟩
  have jl:=ab ((aa jb).kept (aa HL) cN hz)
  have js:w6.heap[W.heap.size]?=some (.cells #[.string nm,.slice fa fs.length fc,.slice oa os.length oc,.slice ma ms.length mc,.slice ea es.length ec,.slice ra rs.length rc,.slice ga gs.length gc] 49 (0,0)):=(aa jl).m
  have zz:∀a s,al (.ok s0) fX=.ok (a,s)→a=(⟨dc,dk,dt,dn,dm,dq⟩:Fd):=fun a s e=>by
   have h1:=hv a s e
   obtain ⟨q1,q2,q3,q4,q5,q6⟩:=a
   simp only[Fd.val,Fd.arr,Value.agg.injEq,Array.mk.injEq,List.cons.injEq,Value.int.injEq,Value.string.injEq,true_and,and_true] at h1
   obtain ⟨rfl,rfl,rfl,rfl,rfl,rfl⟩:=h1
   rfl
  have dp:F0=lV ⟨nm,fs,os,ms,es,rs,gs⟩ (al (.ok s0) fX):=(aa HF).trans (aa HMB)
  have sg:Hid (aT (al (.ok s0) fX)=aT F0):=by
   show _=_
   rw[dp]
   cases al (.ok s0) fX with
   |error y=>rfl
   |ok p=>rfl
  have lN:Hid (∀a s,F0=.ok (a,s)→a=(⟨nm,fs++[(⟨dc,dk,dt,dn,dm,dq⟩:Fd)],os,ms,es,rs,gs⟩:Mp)):=fun a s e=>by
   rw[dp] at e
   cases hr:al (.ok s0) fX with
   |error y=>rw[hr] at e;cases e
   |ok p =>
    have:=zz p.1 p.2 hr
    rw[hr] at e
    obtain ⟨p1,p2⟩:=p
    dsimp only at this
    subst this
    cases e
    rfl
  have G1:Hid (bH ⟨nm,fs++[(⟨dc,dk,dt,dn,dm,dq⟩:Fd)],os,ms,es,rs,gs⟩≤bH ⟨nm,fs,os,ms,es,rs,gs⟩+50000):=by show _≤_;unfold bH;simp only[zK];show fs.length+1+os.length+ms.length+es.length+rs.length+gs.length≤_;omega
  clear zz dp
  refine ⟨_,rfl,hK _ _ ⟨fun _=>js,?_⟩⟩
  clear hK K hg hz hv cN hT
  simp only[Act.put,zL,zM,zN,Fd.val,Fd.arr]
  refine aN 4 (by kernel_rfl) rfl (fun K hK=>?_)
  go_simp
  refine hK _ _ ⟨fun _=>bL js _,?_⟩
  clear hK K
  refine aN 5 (by kernel_rfl) rfl (fun K hK=>?_)
  have Ad:W.heap.size≤w6.heap.size:=(aa jl).F.size
  have kN:=ab ((aa jl).s.alloc (.cells #[.int .i64 dc,.string dk,.string dt,.string dn,.int .i64 dm,.int .i64 dq] 45))
  refine dN rfl (.tmp 150) (.tmp 153) 46 rfl l 45 j0 (.agg #[.int .i64 0,.string ⟨#[]⟩,.string ⟨#[]⟩,.string ⟨#[]⟩,.int .i64 0,.int .i64 0]) 6 72 Tryz.underlying46 hj Tq Tp To rfl (by decide) (.slice fa fs.length fc) fs.length (mI fs) (by first|rfl|simp[Act.eval]) ((aa kN).sl.own 0 _ rfl) ⟨w6.heap.size,0,none⟩ 1 1 [.int .i64 dc,.string dk,.string dt,.string dn,.int .i64 dm,.int .i64 dq] (by first|rfl|simp[Act.eval]) rfl (df _ _ _) (by simp[Value.oneCell']) (by have:=(aa HB).1;unfold bH at this;simp only at this;unfold maxLen;omega) (by have:=(aa HB).1;unfold bH at this;simp only at this;omega) (by rw[zJ];omega) ?_
  intro v7 w7 dx cc jd
  obtain ⟨a7,c7,rfl⟩:=bY dx
  have fK:w7.heap[W.heap.size]?=some (.cells #[.string nm,.slice fa fs.length fc,.slice oa os.length oc,.slice ma ms.length mc,.slice ea es.length ec,.slice ra rs.length rc,.slice ga gs.length gc] 49 (0,0)):=(aa kN).sl.lA (i:=0) rfl (by simp) (bL js _) cc
  have ky:=aC (j:=1) fK (.slice a7 (fs.length+1) c7)
  have eV:Hid (nH W lo b l W.heap.size (W.heap.size+1) ti jX (ti::(W.heap.size+1)::W.heap.size::L) ⟨nm,fs++[(⟨dc,dk,dt,dn,dm,dq⟩:Fd)],os,ms,es,rs,gs⟩ ⟨(a7,c7),(oa,oc),(ma,mc),(ea,ec),(ra,rc),(ga,gc),cm,ce⟩ (aT (al (.ok s0) fX)) (w7.setCell ⟨W.heap.size,1,none⟩ (.slice a7 (fs.length+1) c7))):=by
   refine (((aa jl).box (.cells #[.int .i64 dc,.string dk,.string dt,.string dn,.int .i64 dm,.int .i64 dq] 45)).app (x':=⟨nm,fs++[(⟨dc,dk,dt,dn,dm,dq⟩:Fd)],os,ms,es,rs,gs⟩) (v':=⟨(a7,c7),(oa,oc),(ma,mc),(ea,ec),(ra,rc),(ga,gc),cm,ce⟩) (aa HL).box (i:=0) rfl dx cc jd ?_ rfl rfl rfl rfl ?_ ky.2).less (L':=(ti::(W.heap.size+1)::W.heap.size::L)) (fun k hk=>zF _ hk)
   ·simp only[MV.ss,td,zK,rH]
    rfl
   ·simp only[MV.arr,zK]
    exact ky.1
  have Cj:=(cK fK).1.2.1
  have B5:=(cK fK).2 1
  refine hK _ _ ⟨fun _=>fK,?_⟩
  clear hK K dx cc jd ky js kN
  simp only[Act.put,zL]
  refine aN 6 (by kernel_rfl) rfl (fun K hK=>?_)
  go_simp
  refine hK _ _ ⟨fun _=>fK,?_⟩
  clear hK K
  refine aN 7 (by kernel_rfl) rfl (fun K hK=>?_)
  go_simp
  refine hK _ _ ⟨fun q=>absurd rfl q,?_⟩
  clear hK K Cj B5 fK
  refine cP (by kernel_rfl) ?_
  have hm:(w7.setCell ⟨W.heap.size,1,none⟩ (.slice a7 (fs.length+1) c7)).heap[W.heap.size]?=some (.cells #[.string nm,.slice a7 (fs.length+1) c7,.slice oa os.length oc,.slice ma ms.length mc,.slice ea es.length ec,.slice ra rs.length rc,.slice ga gs.length gc] 49 (0,0)):=by first|exact (aa eV).m|(have h1:=(aa eV).m;simp only[MV.arr,zK] at h1;exact h1)
  have hr:(w7.setCell ⟨W.heap.size,1,none⟩ (.slice a7 (fs.length+1) c7)).heap[W.heap.size+1]?=some (.cells #[.string ⟨#[]⟩,.slice none 0 0,.slice none 0 0,.slice none 0 0,.slice none 0 0,.slice none 0 0,.slice none 0 0] 49 (0,0)):=(aa eV).r
  have Wp:=seen hm
  have Wo:=seen hr
  have V2:=aS hr
  obtain ⟨t1,t2⟩:=dJ hr (.string nm) (.slice a7 (fs.length+1) c7) (.slice oa os.length oc) (.slice ma ms.length mc) (.slice ea es.length ec) (.slice ra rs.length rc) (.slice ga gs.length gc)
  have T1:=ab t1
  have T2:=ab ((aa eV).F.gu t2 (by omega))
  have T3:=ab ((aa eV).z.gu t2 (by omega))
  have T4:=ab (((aa eV).s.kept t2 (.inr (by simp))).less (L':=L) (fun k hk=>zF _ (zF _ (zF _ hk))))
  have T5:=ab (aa eV).og
  clear t1 t2 hm hr
  go_wp2
  refine bodyPost_ret (results_cell_row rfl _ _ (W.heap.size+1) 49 #[.string nm,.slice a7 (fs.length+1) c7,.slice oa os.length oc,.slice ma ms.length mc,.slice ea es.length ec,.slice ra rs.length rc,.slice ga gs.length gc] (0,0) _ rfl (aa T1) Tryz.underlying49 rfl jY) rfl ?_
  refine ⟨aa T2,by rw[←aa sg];exact aa T3,⟨nm,fs++[(⟨dc,dk,dt,dn,dm,dq⟩:Fd)],os,ms,es,rs,gs⟩,⟨(a7,c7),(oa,oc),(ma,mc),(ea,ec),(ra,rc),(ga,gc),cm,ce⟩,by first|rfl|(simp only[MV.arr,zK];done)|(simp only[MV.arr,zK];rfl),aa T4,aa T5,?_,aa lN⟩
  exact (aa HB).next (aa G1) (aa tj)
end Go.Proofs.YtjophoclfccmcaaGreatDoor

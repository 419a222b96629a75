import Derived.Test.YtjophoclfccmcaaGreatDoorPfX
set_option maxHeartbeats 4000000
set_option maxRecDepth 100000
namespace Go.Proofs.YtjophoclfccmcaaGreatDoor
open Go.RowKit
attribute [local go_sem ↓] Go.wp_at_zero Go.wp_at_succ
theorem La (w:World) (vs:Array Value):(callFunc 111 vs).run Tryz.prog w=.ok (.enter 111 vs) w:=by
 have hn:¬Tryz.f111.name = "runtime.NumGoroutine" := by decide +kernel
 have hb:Tryz.f111.body.isSome=true:=by kernel_rfl
 obtain ⟨c,hc⟩:=zG hb
 simp[callFunc,Tryz.func111,hn,hc]
theorem GI (w:World) (vs:Array Value):(callFunc 110 vs).run Tryz.prog w=.ok (.enter 110 vs) w:=by
 have hn:¬Tryz.f110.name = "runtime.NumGoroutine" := by decide +kernel
 have hb:Tryz.f110.body.isSome=true:=by kernel_rfl
 obtain ⟨c,hc⟩:=zG hb
 simp[callFunc,Tryz.func110,hn,hc]
theorem Ex (w:World) (vs:Array Value):(callFunc 41 vs).run Tryz.prog w=.ok (.enter 41 vs) w:=by
 have hn:¬Tryz.f41.name = "runtime.NumGoroutine" := by decide +kernel
 have hb:Tryz.f41.body.isSome=true:=by kernel_rfl
 obtain ⟨c,hc⟩:=zG hb
 simp[callFunc,Tryz.func41,hn,hc]
theorem tO (w:World) (vs:Array Value):(callFunc 40 vs).run Tryz.prog w=.ok (.enter 40 vs) w:=by
 have hn:¬Tryz.f40.name = "runtime.NumGoroutine" := by decide +kernel
 have hb:Tryz.f40.body.isSome=true:=by kernel_rfl
 obtain ⟨c,hc⟩:=zG hb
 simp[callFunc,Tryz.func40,hn,hc]
theorem Tc {R:PX}{kt pt:Int}{tt:ByteArray}{s0:ax} (hp:EN R ⟨kt,pt,tt⟩) (hk:kt≠5) (hs:∀s',R=.ok s'→s'=s0):R=.ok s0∧(⟨kt,pt,tt⟩:Tk)=s0.here:=by
 match R,hp,hs with
 |.error y,hp,_=>exact absurd hp.1 hk
 |.ok s,hp,hs =>
  obtain rfl:=hs s rfl
  exact ⟨rfl,hp.2.2 (by rw[←hp.1];exact hk)⟩
theorem tn {x:ByteArray}{l:List UInt8} (h:x≠⟨l.toArray⟩):(x.toList==l)=false:=by
 cases e:(x.toList==l) with
 |false=>rfl
 |true =>
  exfalso
  apply h
  have e2:x.toList=l:=eq_of_beq e
  have e3:(⟨l.toArray⟩:ByteArray).toList=l:=by rw[ByteArray.toList_eq]
  exact (Lib.bytes_beq_iff _ _).1 (by rw[e2,e3];exact beq_self_eq_true l)
theorem DO {mf:ax→Except (Int×Int) (Ms×ax)}{x:Mp}{R5:PX}{F0:Except (Int×Int) (Mp×ax)}{kt pt:Int}{tt:ByteArray} (hp:EN R5 ⟨kt,pt,tt⟩) (hF:F0=al R5 (nF mf x)) (h1:kt≠1) (h2:¬(kt=4∧tt=⟨#[59]⟩)) (h3:¬(kt=4∧tt=⟨#[46]⟩)):kN R5=aT F0∧∀a s,F0=.ok (a,s)→a=x:=by
 subst hF
 match R5,hp with
 |.error y,_=>exact ⟨rfl,fun a s e=>by cases e⟩
 |.ok s,hp =>
  have no:∀X:ByteArray,¬(kt=4∧tt=X)→¬aH s.here 4 X=true:=fun X hn q=>by
   have q2:=bn.1 q
   have ht:=hp.2.2 (by rw[q2.1];decide)
   exact hn ⟨hp.1.trans q2.1,by have:tt=s.here.text:=congrArg Tk.text ht;rw[this];exact q2.2⟩
  have e:nF mf x s=.error (bS s):=by
   unfold nF
   rw[if_neg (no _ h2),if_pos ⟨fun q=>h1 (hp.1.trans q),no _ h3⟩]
  show _=aT (nF mf x s)∧∀a s',nF mf x s=.ok (a,s')→a=x
  rw[e]
  exact ⟨rfl,fun a s e=>by cases e⟩
theorem Fm.trans {b:Nat}{ss:List Slot}{W w w':World} (h:Fm b ss W w) (h':Fm b ss w w'):Fm b ss W w':=⟨h'.os.trans h.os,h'.tape.trans h.tape,h'.output.trans h.output,Nat.le_trans h.size h'.size,fun k h1 h2 h3=>(h'.block k (Nat.lt_of_lt_of_le h1 h.size) h2 h3).trans (h.block k h1 h2 h3)⟩
theorem OG.back {W w:World}{ss ss':List Slot} (h:OG w ss ss') (hs:W.heap.size≤w.heap.size):OG W ss ss':=fun i sl k hi hk=>(h i sl k hi hk).elim (fun q=>.inl (Nat.le_trans hs q)) .inr
theorem Nt {mf:ax→Except (Int×Int) (Ms×ax)}{x:Mp}{s:ax} (h1:s.here.kind=1) (e:s.here.text=EZ):nF mf x s=fM x s:=by
 rw[mx h1,if_neg (bO e (cb (by decide +kernel))),if_neg (bO e (cb (by decide +kernel))),if_pos (bn.2 ⟨h1,e⟩)]
theorem UN {mf:ax→Except (Int×Int) (Ms×ax)}{x:Mp}{s:ax} (h1:s.here.kind=1) (e:s.here.text=kp):nF mf x s=bQ (al (.ok s) (gI false)) (fun l s'=>.ok ({ x with rs:=x.rs++l.1,gs:=x.gs++l.2 },s')):=by
 rw[mx h1,if_neg (bO e (cb (by decide +kernel))),if_neg (bO e (cb (by decide +kernel))),if_neg (bO e (cb (by decide +kernel))),if_pos (bn.2 ⟨h1,e⟩)]
 show Q9 x s=bQ (gI false s) _
 unfold Q9
 rw[Ir,show j5 1 536870911 false [] [] s=gI false s from rfl]
 cases gI false s with
 |error y=>rfl
 |ok p=>rfl
theorem US {mf:ax→Except (Int×Int) (Ms×ax)}{x:Mp}{s:ax} (h1:s.here.kind=1) (e:s.here.text=Ki) (h3:aH (s.ahead 1) 4 ⟨#[60]⟩=true):nF mf x s=lS x (lr s):=by
 rw[mx h1,if_neg (bO e (cb (by decide +kernel))),if_neg (bO e (cb (by decide +kernel))),if_neg (bO e (cb (by decide +kernel))),if_neg (bO e (cb (by decide +kernel))),if_pos ⟨bn.2 ⟨h1,e⟩,h3⟩]
theorem Rn {mf:ax→Except (Int×Int) (Ms×ax)}{x:Mp}{s:ax} (h1:s.here.kind=1) (e:s.here.text=lh):nF mf x s=OM x (al (.ok s) dd):=by
 rw[mx h1,if_neg (bO e (cb (by decide +kernel))),if_pos (bn.2 ⟨h1,e⟩)]
 rfl
theorem MH {w:World}{b t sz n:Nat}{v:Value}{xs:List Value} (h:w.ownsRow b t sz v n xs):w.ownsRow 0 t sz v n xs:=⟨h.1,h.2.elim .inl (fun ⟨g,cap,cur,e,_,hc,rest⟩=>.inr ⟨g,cap,cur,e,Nat.zero_le _,hc,rest⟩)⟩
theorem yx {l n6 k:Nat}{L:List Nat}{w3:World}{x:Mp}{v:MV} (hs:nI l L w3 x v) (hl:l≤w3.heap.size) (h1:w3.heap.size≤k) (h2:k<n6):Nq l (n6::L) (v.ss x) k:=by
 refine ⟨by omega,fun hm=>?_,fun i sl hi hk=>?_⟩
 ·rcases List.mem_cons.1 hm with rfl|hm
  ·omega
  ·have:=hs.sl.lt k hm
   omega
 ·have:=((hs.sl.own i sl hi).lt k hk).2
  omega
theorem nI.Px {l i n':Nat}{L:List Nat}{w w':World}{x x':Mp}{v v':MV}{sl:Slot}{u:Value}{sb:List Value} (h:nI l L w x v) (rT:eU (Nq l L (v.ss x)) w v'.cm x'.ms) (AZ:fH (Nq l L (v.ss x)) w v'.ce x'.es) (hi:(v.ss x)[i]?=some sl) (ho:w'.ownsRow l sl.t sl.sz u n' sb) (hg:w.grownBy w' sl.v.ownBlock) (fp:u.ownBlock=sl.v.ownBlock∨u.ownBlock=some w.heap.size) (he:v'.ss x'=(v.ss x).set i ⟨sl.t,sl.sz,u,n',sb⟩):nI l L w' x' v':=by
 have goes:wW (Nq l L (v.ss x)) (Nq l L (v'.ss x')) w w':=by
  refine fun k hp hk=>⟨⟨hp.1,hp.2.1,fun j a hj=>?_⟩,hg.block k hk (fun e=>hp.2.2 i sl hi e.symm)⟩
  rw[he,List.getElem?_set] at hj
  by_cases e:i=j
  ·subst e
   rw[if_pos rfl,if_pos (zB hi).1] at hj
   obtain rfl:=zC hj
   intro hq
   rcases fp with fp|fp
   ·exact hp.2.2 i sl hi (by rw[←fp];exact hq)
   ·have:some w.heap.size=some k:=by rw[←fp];exact hq
    have:=zC this
    omega
  ·rw[if_neg e] at hj
   exact hp.2.2 j a hj
 exact ⟨by rw[he];exact h.sl.app hi ho hg fp,fb _ _ _ _ _ _ goes rT,eP _ _ _ _ _ _ goes AZ⟩
theorem nE.Px {W w w1:World}{lo b l mi ri ti i j n':Nat}{j3:List Slot}{L:List Nat}{x x':Mp}{v v':MV}{R:PX}{sl:Slot}{u:Value}{sb:List Value} (h:nE W lo b l mi ri ti j3 L x v R w) (hL:S4 W lo b l mi ri ti L) (rT:eU (Nq l L (v.ss x)) w v'.cm x'.ms) (AZ:fH (Nq l L (v.ss x)) w v'.ce x'.es) (hi:(v.ss x)[i]?=some sl) (ho:w1.ownsRow l sl.t sl.sz u n' sb) (hg:w.grownBy w1 sl.v.ownBlock) (fp:u.ownBlock=sl.v.ownBlock∨u.ownBlock=some w.heap.size) (he:v'.ss x'=(v.ss x).set i ⟨sl.t,sl.sz,u,n',sb⟩) (ha:(w1.setCell ⟨mi,j,none⟩ u).heap[mi]?=some (.cells (v'.arr x') 49 (0,0))) (hs:w1.grownBy (w1.setCell ⟨mi,j,none⟩ u) (some mi)):nE W lo b l mi ri ti j3 L x' v' R (w1.setCell ⟨mi,j,none⟩ u):=by
 obtain ⟨k,p,tx,ht⟩:=h.t
 have jh:=hL.lo
 have hm:=hL.m
 refine ⟨(h.F.row hg (fun k hk=>h.og i sl k hi hk)).gA hs hL.m,(h.s.sl.zr hi jh.2.1 h.z hg).gA hs (by omega),ha,aw hs (h.s.sl.lz hi hL.mem.2.1 h.r hg) hL.ne.1.symm,⟨k,p,tx,aw hs (h.s.sl.lz hi hL.mem.2.2 ht hg) hL.ne.2.1.symm⟩,(h.s.Px rT AZ hi ho hg fp he).kept hs (.inr hL.mem.1),?_⟩
 intro a sa k Oi hk
 rw[he,List.getElem?_set] at Oi
 by_cases e:i=a
 ·subst e
  rw[if_pos rfl,if_pos (zB hi).1] at Oi
  obtain rfl:=zC Oi
  rcases fp with fp|fp
  ·exact h.og i sl k hi (by rw[←fp];exact hk)
  ·have:some w.heap.size=some k:=by rw[←fp];exact hk
   have:=zC this
   have:=h.F.size
   exact .inl (by omega)
 ·rw[if_neg e] at Oi
  exact h.og a sa k Oi hk
theorem NI:(Tryz.prog.info? 71).map (fun i=>(i.zero,i.size,i.bytes))=some (some (.agg #[.string ⟨#[]⟩,.slice none 0 0,.slice none 0 0,.slice none 0 0]),4,88):=by kernel_rfl
theorem UP {mf:ax→Except (Int×Int) (Ms×ax)}{x:Mp}{s:ax} (h1:s.here.kind=1) (e:s.here.text=ib):nF mf x s=FT x (mf s):=by
 rw[mx h1,if_pos (bn.2 ⟨h1,e⟩)]
theorem NG:(Tryz.prog.info? 49).map (fun i=>(i.zero,i.size,i.bytes))=some (some (.agg #[.string ⟨#[]⟩,.slice none 0 0,.slice none 0 0,.slice none 0 0,.slice none 0 0,.slice none 0 0,.slice none 0 0]),7,160):=by kernel_rfl
theorem yC {mf:ax→Except (Int×Int) (Ms×ax)}{x:Mp}{s:ax} (h0:¬aH s.here 4 ⟨#[59]⟩=true) (h1:s.here.kind=1∨aH s.here 4 ⟨#[46]⟩=true) (hn:∀W ∈ [ib,lh,EZ,kp],¬aH s.here 1 W=true) (hm:¬(aH s.here 1 Ki=true∧aH (s.ahead 1) 4 ⟨#[60]⟩=true)):nF mf x s=lS x (gi s):=by
 unfold nF
 rw[if_neg h0,if_neg (fun q=>h1.elim q.1 q.2),if_neg (hn _ (by simp)),if_neg (hn _ (by simp)),if_neg (hn _ (by simp)),if_neg (hn _ (by simp)),if_neg hm]
def Wi (lo b:Nat) (W:World) (r:Except (Int×Int) (Ms×ax)) (e:Ending) (w:World):Prop:=W.grownBy w (some b)∧Zr lo w b (aT r)∧∃(x:Mp) (v:MV),e=.returned (.agg (v.arr x))∧nI W.heap.size [] w x v∧∀a s,r=.ok (a,s)→a=x.done
theorem Jz {W:World}{lo b l:Nat}{L:List Nat}{s0:ax}{x:Mp}{v:MV}{op:Int}{mf:ax→Except (Int×Int) (Ms×ax)} (IG:∀s m s',mf s=.ok (m,s')→Gt s s') (h:Zr lo W b (.ok s0)) (hl:lo≤l∧l≤W.heap.size) (hM:nI l L W x v) (hB:pO 1000000000 (bJ x) (.ok s0))
  (RI:aH s0.here 1 ib=true→∀w,Zr lo w b (.ok s0)→Calls Tryz.prog 40 #[.pointer (some ⟨b,0,none⟩),.int .i64 (wrap64 (op+1))] w (Wi lo b w (mf s0))):Calls Tryz.prog 72 #[.pointer (some ⟨b,0,none⟩),.agg (v.arr x),.int .i64 op] W (MbQ lo b l L W (v.ss x) (al (.ok s0) (fun s=>bQ (dp my s) (fun _ s1=>nF mf x s1)))):=by
 obtain ⟨j0,hj,Ti,Th,Tg⟩:=info_parts NH
 obtain ⟨i0,hi,tZ,tY,jg⟩:=info_parts rk
 obtain ⟨r0,NY,rz0,rz1,rz2⟩:=info_parts F2
 obtain ⟨d0,Af,dz0,dz1,dz2⟩:=info_parts NI
 obtain ⟨g0,Ge,gz0,gz1,gz2⟩:=info_parts NG
 have cC:=h.low
 have zV:Hid (Gd s0):=h.2
 have HB:=ab hB
 obtain ⟨nm,fs,os,ms,es,rs,gs⟩:=x
 obtain ⟨⟨fa,fc⟩,⟨oa,oc⟩,⟨ma,mc⟩,⟨ea,ec⟩,⟨ra,rc⟩,⟨ga,gc⟩,cm,ce⟩:=v
 obtain ⟨j3,Kw⟩:∃j3,j3=MV.ss ⟨(fa,fc),(oa,oc),(ma,mc),(ea,ec),(ra,rc),(ga,gc),cm,ce⟩ ⟨nm,fs,os,ms,es,rs,gs⟩:=⟨_,rfl⟩
 obtain ⟨R5,uh⟩:∃R5,R5=aT (al (.ok s0) (dp my)):=⟨_,rfl⟩
 obtain ⟨F0,sM⟩:∃F0,F0=al (.ok s0) (fun s=>bQ (dp my s) (fun _ s1=>nF mf ⟨nm,fs,os,ms,es,rs,gs⟩ s1)):=⟨_,rfl⟩
 have HF:Hid (F0=al R5 (nF mf ⟨nm,fs,os,ms,es,rs,gs⟩)):=by
  show _=_
  rw[sM,uh,fh]
  rfl
 have CG:Hid (∀s',R5=.ok s'→s'=s0):=by
  intro s' e
  rw[uh,show al (.ok s0) (dp my)=dp my s0 from rfl] at e
  unfold dp at e
  split at e
  ·cases e
  ·cases e;rfl
 have wU:Hid (∀s',aT F0=.ok s'→s'.ts.length<s0.ts.length):=by
  intro s' e
  rw[sM,show al (.ok s0) (fun s=>bQ (dp my s) (fun _ s1=>nF mf ⟨nm,fs,os,ms,es,rs,gs⟩ s1))=bV (mw mf) E0 ⟨nm,fs,os,ms,es,rs,gs⟩ s0 from (By (aa zV)).symm] at e
  cases hr:bV (mw mf) E0 ⟨nm,fs,os,ms,es,rs,gs⟩ s0 with
  |error y=>rw[hr] at e;cases e
  |ok p =>
   rw[hr] at e
   cases e
   obtain ⟨h1,h2⟩:=gZ (yA mf IG) (fun x s x' s' h=>jS h) (x':=p.1) hr
   exact dS h1 (h2 (aa zV).en)
 have Fe:=ab sM
 have PL:Hid (OG W j3 (MV.ss ⟨(fa,fc),(oa,oc),(ma,mc),(ea,ec),(ra,rc),(ga,gc),cm,ce⟩ ⟨nm,fs,os,ms,es,rs,gs⟩)):=fun i sl k hi hk=>.inr ⟨i,sl,by rw[Kw];exact hi,hk⟩
 have bK:=(zE W.heap.size W).alloc (zD _) (.cells #[.string nm,.slice fa fs.length fc,.slice oa os.length oc,.slice ma ms.length mc,.slice ea es.length ec,.slice ra rs.length rc,.slice ga gs.length gc] 49)
 have ZN:=hM.box (.cells #[.string nm,.slice fa fs.length fc,.slice oa os.length oc,.slice ma ms.length mc,.slice ea es.length ec,.slice ra rs.length rc,.slice ga gs.length gc] 49)
 have Om:=ZN.box (.cells #[.string ⟨#[]⟩,.slice none 0 0,.slice none 0 0,.slice none 0 0,.slice none 0 0,.slice none 0 0,.slice none 0 0] 49)
 rw[zJ] at Om
 have xO:=ab Om
 have bo:=bK.alloc bK.size (.cells #[.string ⟨#[]⟩,.slice none 0 0,.slice none 0 0,.slice none 0 0,.slice none 0 0,.slice none 0 0,.slice none 0 0] 49)
 have iJ:=ab bo
 have HZ:=ab (h.up bo)
 have Wv:Hid (((W.alloc (.cells #[.string nm,.slice fa fs.length fc,.slice oa os.length oc,.slice ma ms.length mc,.slice ea es.length ec,.slice ra rs.length rc,.slice ga gs.length gc] 49)).alloc (.cells #[.string ⟨#[]⟩,.slice none 0 0,.slice none 0 0,.slice none 0 0,.slice none 0 0,.slice none 0 0,.slice none 0 0] 49)).heap[W.heap.size]?=some (.cells #[.string nm,.slice fa fs.length fc,.slice oa os.length oc,.slice ma ms.length mc,.slice ea es.length ec,.slice ra rs.length rc,.slice ga gs.length gc] 49 (0,0))):=bL (aF _ _) _
 have Kx:=aF (W.alloc (.cells #[.string nm,.slice fa fs.length fc,.slice oa os.length oc,.slice ma ms.length mc,.slice ea es.length ec,.slice ra rs.length rc,.slice ga gs.length gc] 49)) (.cells #[.string ⟨#[]⟩,.slice none 0 0,.slice none 0 0,.slice none 0 0,.slice none 0 0,.slice none 0 0,.slice none 0 0] 49)
 rw[zJ] at Kx
 have aW:=ab Kx
 obtain ⟨WA,LD⟩:∃WA,WA=(W.alloc (.cells #[.string nm,.slice fa fs.length fc,.slice oa os.length oc,.slice ma ms.length mc,.slice ea es.length ec,.slice ra rs.length rc,.slice ga gs.length gc] 49)).alloc (.cells #[.string ⟨#[]⟩,.slice none 0 0,.slice none 0 0,.slice none 0 0,.slice none 0 0,.slice none 0 0,.slice none 0 0] 49):=⟨_,rfl⟩
 have YY:WA.heap.size=W.heap.size+2:=by rw[LD,zJ,zJ]
 have HW:Hid (sX (WA.alloc (.cells #[.string ⟨#[111,112,116,105,111,110]⟩,.string ⟨#[101,120,116,101,110,100]⟩,.string ⟨#[101,120,116,101,110,115,105,111,110,115]⟩,.string ⟨#[103,114,111,117,112]⟩,.string ⟨#[114,101,113,117,105,114,101,100]⟩] 9)) (.slice (some ⟨W.heap.size+2,0,none⟩) 5 5) 5 (dV my)):=by
  have:=mV WA my 9
  rw[YY] at this
  exact this
 have pd:=(zE WA.heap.size WA).alloc (zD _) (.cells #[.string ⟨#[111,112,116,105,111,110]⟩,.string ⟨#[101,120,116,101,110,100]⟩,.string ⟨#[101,120,116,101,110,115,105,111,110,115]⟩,.string ⟨#[103,114,111,117,112]⟩,.string ⟨#[114,101,113,117,105,114,101,100]⟩] 9)
 rw[←LD] at xO iJ HZ Wv aW
 have Jo:=ab ((aa HZ).up pd)
 have Lt:=ab (aM pd (some b))
 rw[LD] at HW Jo
 have HWA:=ab LD
 clear h hB hM ZN Om bK bo Kx sM pd LD
 unfold MV.arr
 simp only
 rw[←Kw,←aa Fe]
 go_enter Tryz.func72,Tryz.ntmps72
 go_wp2_with fail
 refine (hJ (l:=my) (aa Jo) (aa HW)).mono ?_
 rintro e w1 ⟨hg,hz,v0,rfl,mA,-⟩
 obtain rfl:=mA
 rw[←uh] at hz
 rw[←aa HWA] at hg
 have Qg:=ab hz
 have td:=ab ((aa Lt).trans hg)
 clear hg hz Jo Lt HW HZ
 have uc:W.heap.size+2≤w1.heap.size:=by have:=(aa td).size;omega
 go_wp2_with fail
 refine (gm (aa Qg)).mono ?_
 rintro e w2 ⟨⟨kt,pt,tt⟩,rfl,hb,hp⟩
 have po:=ab hp
 have sI:=hb.size
 have P7:=(aa td).trans (aM hb (some b))
 have Xu:nE W lo b l W.heap.size (W.heap.size+1) w2.heap.size j3 (w2.heap.size::(W.heap.size+1)::W.heap.size::L) ⟨nm,fs,os,ms,es,rs,gs⟩ ⟨(fa,fc),(oa,oc),(ma,mc),(ea,ec),(ra,rc),(ga,gc),cm,ce⟩ R5 (w2.alloc (.cells #[.int .i64 kt,.int .i64 pt,.string tt] 38)) :=
  ⟨(((Fm.refl b j3 W).below (aa iJ)).kept P7).below ((zE _ _).alloc (zD _) _),((aa Qg).up hb).up ((zE _ _).alloc (zD _) _),bL (aw P7 (aa Wv) (by omega)) _,bL (aw P7 (aa aW) (by omega)) _,⟨kt,pt,tt,aF _ _⟩,((aa xO).kept P7 (.inl (by omega))).box _,aa PL⟩
 have LL:Hid ((w2.alloc (.cells #[.int .i64 kt,.int .i64 pt,.string tt] 38)).heap[w2.heap.size]?=some (.cells #[.int .i64 kt,.int .i64 pt,.string tt] 38 (0,0))):=aF _ _
 have HL:Hid (S4 W lo b l W.heap.size (W.heap.size+1) w2.heap.size (w2.heap.size::(W.heap.size+1)::W.heap.size::L)):=⟨⟨cC.1,hl.1,hl.2⟩,zD _,by omega,by omega,⟨by omega,by omega,by omega⟩,⟨by simp,by simp,by simp⟩⟩
 have ja:=ab Xu
 obtain ⟨ti,IC⟩:∃t,t=w2.heap.size:=⟨_,rfl⟩
 have abi:W.heap.size+2≤ti:=by omega
 rw[←IC] at ja LL HL
 unfold Tk.val
 go_upto_region 3 with fail
 rw[←IC]
 obtain ⟨w3,gS⟩:∃w3,w3=w2.alloc (.cells #[.int .i64 kt,.int .i64 pt,.string tt] 38):=⟨_,rfl⟩
 rw[←gS] at ja LL ⊢
 clear IC gS hb hp P7 Xu Qg td iJ xO Wv aW PL YY uc sI HWA uh Fe
 obtain ⟨⟨Fb,Fa,E'⟩,mD⟩:=dF (aa LL)
 clear mD
 by_cases k4:kt=4
 focus
  subst k4
  obtain ⟨rfl,hh⟩:=Tc (aa po) (by decide) (aa CG)
  have HH:=ab hh
  clear hh
  by_cases h59:tt=⟨#[59]⟩
  ·subst h59
   have HS0:Hid (aH s0.here 4 ⟨#[59]⟩=true):=bn.2 ⟨by rw[←aa HH],by rw[←aa HH]⟩
   obtain ⟨i,ci,fi,bF,AX⟩:=(aa ja).z.next (fun s' e=>by cases e;exact eT (aa zV).en (aa HS0) (by decide))
   obtain ⟨g1,z1⟩:=bF (wrap64 (i+1)) (fun s e=>eN (AX s e))
   have eW:=ab ((aa ja).kept (aa HL) g1 z1)
   have hf:F0=.ok (⟨nm,fs,os,ms,es,rs,gs⟩,s0.nx):=by
    rw[aa HF]
    show nF mf ⟨nm,fs,os,ms,es,rs,gs⟩ s0=_
    unfold nF
    rw[if_pos (aa HS0)]
   have rY:Hid (kI (.ok s0)=aT F0):=by show _=_;rw[hf];rfl
   have lM:Hid (∀a s,F0=.ok (a,s)→a=(⟨nm,fs,os,ms,es,rs,gs⟩:Mp)):=fun a s e=>by rw[hf] at e;cases e;rfl
   have G3:Hid (bJ ⟨nm,fs,os,ms,es,rs,gs⟩≤bJ ⟨nm,fs,os,ms,es,rs,gs⟩+50000):=Nat.le_add_right _ _
   clear g1 z1 bF AX hf
   have hm:(w3.setCell ⟨b,1,none⟩ (.int .i64 (wrap64 (i+1)))).heap[W.heap.size]?=some (.cells #[.string nm,.slice fa fs.length fc,.slice oa os.length oc,.slice ma ms.length mc,.slice ea es.length ec,.slice ra rs.length rc,.slice ga gs.length gc] 49 (0,0)):=by first|exact (aa eW).m|(have h1:=(aa eW).m;simp only[MV.arr,zK] at h1;exact h1)
   have hr:(w3.setCell ⟨b,1,none⟩ (.int .i64 (wrap64 (i+1)))).heap[W.heap.size+1]?=some (.cells #[.string ⟨#[]⟩,.slice none 0 0,.slice none 0 0,.slice none 0 0,.slice none 0 0,.slice none 0 0,.slice none 0 0] 49 (0,0)):=(aa eW).r
   have V7:=seen hm
   have V6:=seen hr
   have VK:=frzn hr
   obtain ⟨t1,t2⟩:=dM hr (.string nm) (.slice fa fs.length fc) (.slice oa os.length oc) (.slice ma ms.length mc) (.slice ea es.length ec) (.slice ra rs.length rc) (.slice ga gs.length gc)
   have T1:=ab t1
   have T2:=ab ((aa eW).F.gA t2 (by omega))
   have T3:=ab ((aa eW).z.gA t2 (by omega))
   have T4:=ab (((aa eW).s.kept t2 (.inr (by simp))).less (L':=L) (fun k hk=>zF _ (zF _ (zF _ hk))))
   have T5:=ab (aa eW).og
   clear t1 t2 hm hr
   go_wp2
   refine bodyPost_ret (results_cell_row rfl _ _ (W.heap.size+1) 49 #[.string nm,.slice fa fs.length fc,.slice oa os.length oc,.slice ma ms.length mc,.slice ea es.length ec,.slice ra rs.length rc,.slice ga gs.length gc] (0,0) _ rfl (aa T1) Tryz.underlying49 rfl j4) rfl ?_
   refine ⟨aa T2,by rw[←aa rY];exact aa T3,⟨nm,fs,os,ms,es,rs,gs⟩,⟨(fa,fc),(oa,oc),(ma,mc),(ea,ec),(ra,rc),(ga,gc),cm,ce⟩,by first|rfl|(simp only[MV.arr,zK];done)|(simp only[MV.arr,zK];rfl),aa T4,aa T5,?_,aa lM⟩
   exact (aa HB).next (aa G3) (aa wU)
  by_cases h46:tt=⟨#[46]⟩
  focus
    subst h46
    have CS:Hid (s0.here.kind=4):=by show _=_;rw[←aa HH]
    have oK:Hid (s0.here.text=⟨#[46]⟩):=by show _=_;rw[←aa HH]
    have HMB:Hid (nF mf ⟨nm,fs,os,ms,es,rs,gs⟩ s0=lS ⟨nm,fs,os,ms,es,rs,gs⟩ (gi s0)):=yC (fun q=>absurd ((aa oK).symm.trans (bn.1 q).2) (cb (by decide +kernel))) (.inr (bn.2 ⟨aa CS,aa oK⟩)) (fun W _ q=>absurd ((aa CS).symm.trans (bn.1 q).1) (by decide)) (fun q=>absurd ((aa CS).symm.trans (bn.1 q.1).1) (by decide))
  rotate_left
  ·have n1:(tt.toList==[59])=false:=tn h59
   have n2:(tt.toList==[46])=false:=tn h46
   obtain ⟨eL,ki⟩:=DO (aa po) (aa HF) (by decide) (fun q=>h59 q.2) (fun q=>h46 q.2)
   have HW1:=ab eL
   have Lr:=ab ki
   clear eL ki h59 h46
   go_wp2_with fail
   refine (kM (aa ja).z).mono ?_
   rintro e w4 ⟨rfl,hg,hz⟩
   have eW:=ab ((aa ja).kept (aa HL) hg hz)
   have rY:=HW1
   have lM:=Lr
   have G3:Hid (bJ ⟨nm,fs,os,ms,es,rs,gs⟩≤bJ ⟨nm,fs,os,ms,es,rs,gs⟩+50000):=Nat.le_add_right _ _
   clear hg hz
   have hm:w4.heap[W.heap.size]?=some (.cells #[.string nm,.slice fa fs.length fc,.slice oa os.length oc,.slice ma ms.length mc,.slice ea es.length ec,.slice ra rs.length rc,.slice ga gs.length gc] 49 (0,0)):=by first|exact (aa eW).m|(have h1:=(aa eW).m;simp only[MV.arr,zK] at h1;exact h1)
   have hr:w4.heap[W.heap.size+1]?=some (.cells #[.string ⟨#[]⟩,.slice none 0 0,.slice none 0 0,.slice none 0 0,.slice none 0 0,.slice none 0 0,.slice none 0 0] 49 (0,0)):=(aa eW).r
   have V7:=seen hm
   have V6:=seen hr
   have VK:=frzn hr
   obtain ⟨t1,t2⟩:=dM hr (.string nm) (.slice fa fs.length fc) (.slice oa os.length oc) (.slice ma ms.length mc) (.slice ea es.length ec) (.slice ra rs.length rc) (.slice ga gs.length gc)
   have T1:=ab t1
   have T2:=ab ((aa eW).F.gA t2 (by omega))
   have T3:=ab ((aa eW).z.gA t2 (by omega))
   have T4:=ab (((aa eW).s.kept t2 (.inr (by simp))).less (L':=L) (fun k hk=>zF _ (zF _ (zF _ hk))))
   have T5:=ab (aa eW).og
   clear t1 t2 hm hr
   go_wp2
   refine bodyPost_ret (results_cell_row rfl _ _ (W.heap.size+1) 49 #[.string nm,.slice fa fs.length fc,.slice oa os.length oc,.slice ma ms.length mc,.slice ea es.length ec,.slice ra rs.length rc,.slice ga gs.length gc] (0,0) _ rfl (aa T1) Tryz.underlying49 rfl j4) rfl ?_
   refine ⟨aa T2,by rw[←aa rY];exact aa T3,⟨nm,fs,os,ms,es,rs,gs⟩,⟨(fa,fc),(oa,oc),(ma,mc),(ea,ec),(ra,rc),(ga,gc),cm,ce⟩,by first|rfl|(simp only[MV.arr,zK];done)|(simp only[MV.arr,zK];rfl),aa T4,aa T5,?_,aa lM⟩
   exact (aa HB).next (aa G3) (aa wU)
 rotate_left
 focus
  by_cases k1:kt=1
  focus
   subst k1
   obtain ⟨rfl,hh⟩:=Tc (aa po) (by decide) (aa CG)
   have CS:Hid (s0.here.kind=1):=by show _=_;rw[←hh]
   have oK:Hid (s0.here.text=tt):=by show _=_;rw[←hh]
   clear hh k4
   by_cases h1:tt=⟨#[109,101,115,115,97,103,101]⟩
   ·subst h1
    go_upto_region 12 with fail
    have hT:w3.drew.heap[W.heap.size]?=some (.cells #[.string nm,.slice fa fs.length fc,.slice oa os.length oc,.slice ma ms.length mc,.slice ea es.length ec,.slice ra rs.length rc,.slice ga gs.length gc] 49 (0,0)):=(aa ja).m
    refine wp_region_any (by kernel_rfl) (dL (z:=9) (T:=fun w=>w.heap[W.heap.size]?=some (.cells #[.string nm,.slice fa fs.length fc,.slice oa os.length oc,.slice ma ms.length mc,.slice ea es.length ec,.slice ra rs.length rc,.slice ga gs.length gc] 49 (0,0))) _ _ _ _ ?_)
    try (change dT _ _ _ _ _ _ _ _ _ (World.drew _))
    refine wpAnyZ_tk 0 (.pointer (some ⟨W.heap.size,3,none⟩)) 55 rfl rfl (Or.inl ⟨by rfl,fun w hw=>by go_simp⟩) hT ?_
    simp only[Act.put,zL,zM,zN]
    refine wpAnyZ_tk 1 (.slice ma ms.length mc) 56 rfl rfl (Or.inl ⟨by rfl,fun w hw=>by have c:=(cL hw).1.2.2.2.1;go_simp⟩) hT ?_
    simp only[Act.put,zL,zM,zN]
    refine wpAnyZ_tk 2 (.pointer (some ⟨b,0,none⟩)) 57 rfl rfl (Or.inl ⟨by rfl,fun w hw=>by go_simp⟩) hT ?_
    simp only[Act.put,zL,zM,zN]
    refine wpAnyZ_tk 3 (.int .i64 op) 58 rfl rfl (Or.inl ⟨by rfl,fun w hw=>by go_simp⟩) hT ?_
    simp only[Act.put,zL,zM,zN]
    refine wpAnyZ_tk 4 (.int .i64 (wrap64 (op+1))) 59 rfl rfl (Or.inl ⟨by rfl,fun w hw=>by go_simp;rw[IntKind.wrap_i64];unfold wrap64;rfl⟩) hT ?_
    simp only[Act.put,zL,zM,zN]
    refine aO 5 (by kernel_rfl) rfl (fun K hK=>?_)
    refine eJ 60 rfl rfl 40 (tO _) #[.tmp 57,.tmp 59] #[55,3] rfl #[.pointer (some ⟨b,0,none⟩),.int .i64 (wrap64 (op+1))] (by first|rfl|simp[Act.eval]) (RI (bn.2 ⟨aa CS,aa oK⟩) _ (show Zr lo w3.drew b (.ok s0) from (aa ja).z.drew)) ?_
    rintro o6 w6 ⟨hg,hz,⟨qn,qf,qo,qm,qe,qr,qg⟩,⟨⟨b1,d1⟩,⟨b2,d2⟩,⟨b3,d3⟩,⟨b4,d4⟩,⟨b5,d5⟩,⟨b6,d6⟩,qcm,qce⟩,rfl,hS,hv⟩
    have cO:w3.grownBy w6 (some b):=⟨hg.os,hg.tape,hg.output,hg.size,hg.block⟩
    have jk:=ab ((aa ja).kept (aa HL) cO hz)
    have jr:w6.heap[W.heap.size]?=some (.cells #[.string nm,.slice fa fs.length fc,.slice oa os.length oc,.slice ma ms.length mc,.slice ea es.length ec,.slice ra rs.length rc,.slice ga gs.length gc] 49 (0,0)):=(aa jk).m
    have Ok:=hS.sl.alloc (.cells #[.string qn,.slice b1 qf.length d1,.slice b2 qo.length d2,.slice b3 qm.length d3,.slice b4 qe.length d4,.slice b5 qr.length d5,.slice b6 qg.length d6] 49)
    have LA:l≤w3.heap.size:=by have:=(aa ja).F.size;omega
    have Wy:Hid (eU (Nq l (w6.heap.size::(ti::(W.heap.size+1)::W.heap.size::L)) (MV.ss ⟨(fa,fc),(oa,oc),(ma,mc),(ea,ec),(ra,rc),(ga,gc),cm,ce⟩ ⟨nm,fs,os,ms,es,rs,gs⟩)) (w6.alloc (.cells #[.string qn,.slice b1 qf.length d1,.slice b2 qo.length d2,.slice b3 qm.length d3,.slice b4 qe.length d4,.slice b5 qr.length d5,.slice b6 qg.length d6] 49)) [.string qn,.slice b1 qf.length d1,.slice b2 qo.length d2,.slice b3 qm.length d3,.slice b4 qe.length d4,.slice b5 qr.length d5,.slice b6 qg.length d6] [(Ms.mk qn qf qo qm qe qr qg)]):=by
     have goes:∀P:Nat→Prop,(∀k,P k→w3.heap.size≤k)→wW P (Nq l (w6.heap.size::(ti::(W.heap.size+1)::W.heap.size::L)) (MV.ss ⟨(fa,fc),(oa,oc),(ma,mc),(ea,ec),(ra,rc),(ga,gc),cm,ce⟩ ⟨nm,fs,os,ms,es,rs,gs⟩)) w6 (w6.alloc (.cells #[.string qn,.slice b1 qf.length d1,.slice b2 qo.length d2,.slice b3 qm.length d3,.slice b4 qe.length d4,.slice b5 qr.length d5,.slice b6 qg.length d6] 49)):=fun P hP k hp hk=>⟨yx (aa ja).s LA (hP k hp) hk,Below.heap_alloc _ _ _ hk⟩
     have q:∀(i:Nat) (sl:Slot),(MV.ss ⟨(b1,d1),(b2,d2),(b3,d3),(b4,d4),(b5,d5),(b6,d6),qcm,qce⟩ ⟨qn,qf,qo,qm,qe,qr,qg⟩)[i]?=some sl→jd (Nq l (w6.heap.size::(ti::(W.heap.size+1)::W.heap.size::L)) (MV.ss ⟨(fa,fc),(oa,oc),(ma,mc),(ea,ec),(ra,rc),(ga,gc),cm,ce⟩ ⟨nm,fs,os,ms,es,rs,gs⟩)) (w6.alloc (.cells #[.string qn,.slice b1 qf.length d1,.slice b2 qo.length d2,.slice b3 qm.length d3,.slice b4 qe.length d4,.slice b5 qr.length d5,.slice b6 qg.length d6] 49)) sl.t sl.sz sl.v sl.n sl.xs:=fun i sl hi=>⟨MH (Ok.own i sl hi),fun k hk=>yx (aa ja).s LA ((hS.sl.own i sl hi).lt k hk).1 ((hS.sl.own i sl hi).lt k hk).2⟩
     exact .cons (q 0 _ rfl) (q 1 _ rfl) (q 2 _ rfl) (fb _ _ _ _ _ _ (goes _ (fun k hp=>hp.1)) hS.ms) (q 3 _ rfl) (eP _ _ _ _ _ _ (goes _ (fun k hp=>hp.1)) hS.es) (q 4 _ rfl) (q 5 _ rfl) .nil
    have du:F0=FT ⟨nm,fs,os,ms,es,rs,gs⟩ (mf s0):=(aa HF).trans (UP (aa CS) (aa oK))
    have rY:Hid (aT (mf s0)=aT F0):=by
     show _=_
     rw[du]
     cases mf s0 with
     |error y=>rfl
     |ok p=>rfl
    have lM:Hid (∀a s,F0=.ok (a,s)→a=(⟨nm,fs,os,ms++[(Ms.mk qn qf qo qm qe qr qg)],es,rs,gs⟩:Mp)):=fun a s e=>by
     rw[du] at e
     cases hr:mf s0 with
     |error y=>rw[hr] at e;cases e
     |ok p =>
      have h1:=hv p.1 p.2 hr
      rw[hr] at e
      obtain ⟨p1,p2⟩:=p
      dsimp only[Mp.done] at h1
      subst h1
      cases e
      rfl
    have G3:Hid (bJ ⟨nm,fs,os,ms++[(Ms.mk qn qf qo qm qe qr qg)],es,rs,gs⟩≤bJ ⟨nm,fs,os,ms,es,rs,gs⟩+50000):=by show _≤_;unfold bJ;simp only[zK];show fs.length+os.length+(ms.length+1)+es.length+rs.length+gs.length≤_;omega
    clear du hS Ok LA
    refine ⟨_,rfl,hK _ _ ⟨fun _=>jr,?_⟩⟩
    clear hK K hg hz hv cO hT
    simp only[Act.put,zL,zM,zN,MV.arr]
    refine aO 6 (by kernel_rfl) rfl (fun K hK=>?_)
    go_simp
    refine hK _ _ ⟨fun _=>bL jr _,?_⟩
    clear hK K
    refine aO 7 (by kernel_rfl) rfl (fun K hK=>?_)
    have Ae:W.heap.size≤w6.heap.size:=(aa jk).F.size
    have kL:=ab ((aa jk).s.alloc (.cells #[.string qn,.slice b1 qf.length d1,.slice b2 qo.length d2,.slice b3 qm.length d3,.slice b4 qe.length d4,.slice b5 qr.length d5,.slice b6 qg.length d6] 49))
    refine dQ rfl (.tmp 56) (.tmp 61) 24 rfl l 49 g0 (.agg #[.string ⟨#[]⟩,.slice none 0 0,.slice none 0 0,.slice none 0 0,.slice none 0 0,.slice none 0 0,.slice none 0 0]) 7 160 Tryz.underlying24 Ge gz0 gz1 gz2 rfl (by decide) (.slice ma ms.length mc) ms.length (cm) (by first|rfl|simp[Act.eval]) ((aa kL).sl.own 2 _ rfl) ⟨w6.heap.size,0,none⟩ 1 1 [.string qn,.slice b1 qf.length d1,.slice b2 qo.length d2,.slice b3 qm.length d3,.slice b4 qe.length d4,.slice b5 qr.length d5,.slice b6 qg.length d6] (by first|rfl|simp[Act.eval]) rfl (cN _ _ _) (by simp[Value.oneCell']) (by have:=(aa HB).1;unfold bJ at this;simp only at this;unfold maxLen;omega) (by have:=(aa HB).1;unfold bJ at this;simp only at this;omega) (by rw[zJ];omega) ?_
    intro v7 w7 dz cc jc
    obtain ⟨a7,c7,rfl⟩:=bY dz
    have fQ:w7.heap[W.heap.size]?=some (.cells #[.string nm,.slice fa fs.length fc,.slice oa os.length oc,.slice ma ms.length mc,.slice ea es.length ec,.slice ra rs.length rc,.slice ga gs.length gc] 49 (0,0)):=(aa kL).sl.lz (i:=2) rfl (by simp) (bL jr _) cc
    have ks:=aC (j:=3) fQ (.slice a7 (ms.length+1) c7)
    have eW:Hid (nE W lo b l W.heap.size (W.heap.size+1) ti j3 (ti::(W.heap.size+1)::W.heap.size::L) ⟨nm,fs,os,ms++[(Ms.mk qn qf qo qm qe qr qg)],es,rs,gs⟩ ⟨(fa,fc),(oa,oc),(a7,c7),(ea,ec),(ra,rc),(ga,gc),cm++([.string qn,.slice b1 qf.length d1,.slice b2 qo.length d2,.slice b3 qm.length d3,.slice b4 qe.length d4,.slice b5 qr.length d5,.slice b6 qg.length d6]:List Value),ce⟩ (aT (mf s0)) (w7.setCell ⟨W.heap.size,3,none⟩ (.slice a7 (ms.length+1) c7))):=by
     refine (((aa jk).box (.cells #[.string qn,.slice b1 qf.length d1,.slice b2 qo.length d2,.slice b3 qm.length d3,.slice b4 qe.length d4,.slice b5 qr.length d5,.slice b6 qg.length d6] 49)).Px (x':=⟨nm,fs,os,ms++[(Ms.mk qn qf qo qm qe qr qg)],es,rs,gs⟩) (v':=⟨(fa,fc),(oa,oc),(a7,c7),(ea,ec),(ra,rc),(ga,gc),cm++([.string qn,.slice b1 qf.length d1,.slice b2 qo.length d2,.slice b3 qm.length d3,.slice b4 qe.length d4,.slice b5 qr.length d5,.slice b6 qg.length d6]:List Value),ce⟩) (aa HL).box (eU.app ((aa jk).s.box _).ms (aa Wy)) ((aa jk).s.box _).es (i:=2) rfl dz cc jc ?_ ?_ ks.2).less (L':=(ti::(W.heap.size+1)::W.heap.size::L)) (fun k hk=>zF _ hk)
     ·simp only[MV.ss,sY,zK]
      rfl
     ·simp only[MV.arr,zK]
      exact ks.1
    have Co:=(cL fQ).1.2.2.2.1
    have Ca:=(cL fQ).2 3
    refine hK _ _ ⟨fun _=>fQ,?_⟩
    clear hK K dz cc jc ks jr kL
    simp only[Act.put,zL]
    refine aO 8 (by kernel_rfl) rfl (fun K hK=>?_)
    go_simp
    refine hK _ _ ⟨fun _=>fQ,?_⟩
    clear hK K
    refine aO 9 (by kernel_rfl) rfl (fun K hK=>?_)
    go_simp
    refine hK _ _ ⟨fun q=>absurd rfl q,?_⟩
    clear hK K Co Ca fQ
    refine df (by kernel_rfl) ?_
    have hm:(w7.setCell ⟨W.heap.size,3,none⟩ (.slice a7 (ms.length+1) c7)).heap[W.heap.size]?=some (.cells #[.string nm,.slice fa fs.length fc,.slice oa os.length oc,.slice a7 (ms.length+1) c7,.slice ea es.length ec,.slice ra rs.length rc,.slice ga gs.length gc] 49 (0,0)):=by first|exact (aa eW).m|(have h1:=(aa eW).m;simp only[MV.arr,zK] at h1;exact h1)
    have hr:(w7.setCell ⟨W.heap.size,3,none⟩ (.slice a7 (ms.length+1) c7)).heap[W.heap.size+1]?=some (.cells #[.string ⟨#[]⟩,.slice none 0 0,.slice none 0 0,.slice none 0 0,.slice none 0 0,.slice none 0 0,.slice none 0 0] 49 (0,0)):=(aa eW).r
    have V7:=seen hm
    have V6:=seen hr
    have VK:=frzn hr
    obtain ⟨t1,t2⟩:=dM hr (.string nm) (.slice fa fs.length fc) (.slice oa os.length oc) (.slice a7 (ms.length+1) c7) (.slice ea es.length ec) (.slice ra rs.length rc) (.slice ga gs.length gc)
    have T1:=ab t1
    have T2:=ab ((aa eW).F.gA t2 (by omega))
    have T3:=ab ((aa eW).z.gA t2 (by omega))
    have T4:=ab (((aa eW).s.kept t2 (.inr (by simp))).less (L':=L) (fun k hk=>zF _ (zF _ (zF _ hk))))
    have T5:=ab (aa eW).og
    clear t1 t2 hm hr
    go_wp2
    refine bodyPost_ret (results_cell_row rfl _ _ (W.heap.size+1) 49 #[.string nm,.slice fa fs.length fc,.slice oa os.length oc,.slice a7 (ms.length+1) c7,.slice ea es.length ec,.slice ra rs.length rc,.slice ga gs.length gc] (0,0) _ rfl (aa T1) Tryz.underlying49 rfl j4) rfl ?_
    refine ⟨aa T2,by rw[←aa rY];exact aa T3,⟨nm,fs,os,ms++[(Ms.mk qn qf qo qm qe qr qg)],es,rs,gs⟩,⟨(fa,fc),(oa,oc),(a7,c7),(ea,ec),(ra,rc),(ga,gc),cm++([.string qn,.slice b1 qf.length d1,.slice b2 qo.length d2,.slice b3 qm.length d3,.slice b4 qe.length d4,.slice b5 qr.length d5,.slice b6 qg.length d6]:List Value),ce⟩,by first|rfl|(simp only[MV.arr,zK];done)|(simp only[MV.arr,zK];rfl),aa T4,aa T5,?_,aa lM⟩
    exact (aa HB).next (aa G3) (aa wU)
   by_cases h2:tt=⟨#[101,110,117,109]⟩
   ·subst h2
    go_upto_region 15 with fail
    have hT:w3.drew.heap[W.heap.size]?=some (.cells #[.string nm,.slice fa fs.length fc,.slice oa os.length oc,.slice ma ms.length mc,.slice ea es.length ec,.slice ra rs.length rc,.slice ga gs.length gc] 49 (0,0)):=(aa ja).m
    refine wp_region_any (by kernel_rfl) (dL (z:=7) (T:=fun w=>w.heap[W.heap.size]?=some (.cells #[.string nm,.slice fa fs.length fc,.slice oa os.length oc,.slice ma ms.length mc,.slice ea es.length ec,.slice ra rs.length rc,.slice ga gs.length gc] 49 (0,0))) _ _ _ _ ?_)
    try (change dT _ _ _ _ _ _ _ _ _ (World.drew _))
    refine wpAnyZ_tk 0 (.pointer (some ⟨W.heap.size,4,none⟩)) 67 rfl rfl (Or.inl ⟨by rfl,fun w hw=>by go_simp⟩) hT ?_
    simp only[Act.put,zL,zM,zN]
    refine wpAnyZ_tk 1 (.slice ea es.length ec) 68 rfl rfl (Or.inl ⟨by rfl,fun w hw=>by have c:=(cL hw).1.2.2.2.2.1;go_simp⟩) hT ?_
    simp only[Act.put,zL,zM,zN]
    refine wpAnyZ_tk 2 (.pointer (some ⟨b,0,none⟩)) 69 rfl rfl (Or.inl ⟨by rfl,fun w hw=>by go_simp⟩) hT ?_
    simp only[Act.put,zL,zM,zN]
    refine aO 3 (by kernel_rfl) rfl (fun K hK=>?_)
    refine eJ 70 rfl rfl 41 (Ex _) #[.tmp 69] #[55] rfl #[.pointer (some ⟨b,0,none⟩)] (by first|rfl|simp[Act.eval]) (G6 (R:=.ok s0) (show Zr lo w3.drew b (.ok s0) from (aa ja).z.drew) (fun s e=>by cases e;exact bn.2 ⟨aa CS,aa oK⟩)) ?_
    rintro o6 w6 ⟨hg,hz,en,a1,c1,a2,c2,a3,c3,rfl,hS,hv⟩
    have cO:w3.grownBy w6 (some b):=⟨hg.os,hg.tape,hg.output,hg.size,hg.block⟩
    have jk:=ab ((aa ja).kept (aa HL) cO hz)
    have jr:w6.heap[W.heap.size]?=some (.cells #[.string nm,.slice fa fs.length fc,.slice oa os.length oc,.slice ma ms.length mc,.slice ea es.length ec,.slice ra rs.length rc,.slice ga gs.length gc] 49 (0,0)):=(aa jk).m
    have Ok:=hS.alloc (.cells #[.string en.name,.slice a1 en.bT.length c1,.slice a2 en.res.length c2,.slice a3 en.gone.length c3] 71)
    have LA:l≤w3.heap.size:=by have:=(aa ja).F.size;omega
    have Wy:Hid (fH (Nq l (w6.heap.size::(ti::(W.heap.size+1)::W.heap.size::L)) (MV.ss ⟨(fa,fc),(oa,oc),(ma,mc),(ea,ec),(ra,rc),(ga,gc),cm,ce⟩ ⟨nm,fs,os,ms,es,rs,gs⟩)) (w6.alloc (.cells #[.string en.name,.slice a1 en.bT.length c1,.slice a2 en.res.length c2,.slice a3 en.gone.length c3] 71)) [.string en.name,.slice a1 en.bT.length c1,.slice a2 en.res.length c2,.slice a3 en.gone.length c3] [en]):=by
     have q:∀(i:Nat) (sl:Slot),(ES en (.slice a1 en.bT.length c1) (.slice a2 en.res.length c2) (.slice a3 en.gone.length c3))[i]?=some sl→jd (Nq l (w6.heap.size::(ti::(W.heap.size+1)::W.heap.size::L)) (MV.ss ⟨(fa,fc),(oa,oc),(ma,mc),(ea,ec),(ra,rc),(ga,gc),cm,ce⟩ ⟨nm,fs,os,ms,es,rs,gs⟩)) (w6.alloc (.cells #[.string en.name,.slice a1 en.bT.length c1,.slice a2 en.res.length c2,.slice a3 en.gone.length c3] 71)) sl.t sl.sz sl.v sl.n sl.xs:=fun i sl hi=>⟨MH (Ok.own i sl hi),fun k hk=>yx (aa ja).s LA ((hS.own i sl hi).lt k hk).1 ((hS.own i sl hi).lt k hk).2⟩
     exact .cons (q 0 _ rfl) (q 1 _ rfl) (q 2 _ rfl) .nil
    have du:F0=OM ⟨nm,fs,os,ms,es,rs,gs⟩ (al (.ok s0) dd):=(aa HF).trans (Rn (aa CS) (aa oK))
    have rY:Hid (aT (al (.ok s0) dd)=aT F0):=by
     show _=_
     rw[du]
     cases al (.ok s0) dd with
     |error y=>rfl
     |ok p=>rfl
    have lM:Hid (∀a s,F0=.ok (a,s)→a=(⟨nm,fs,os,ms,es++[en],rs,gs⟩:Mp)):=fun a s e=>by
     rw[du] at e
     cases hr:al (.ok s0) dd with
     |error y=>rw[hr] at e;cases e
     |ok p =>
      have h1:=hv p.1 p.2 hr
      rw[hr] at e
      obtain ⟨p1,p2⟩:=p
      dsimp only at h1
      subst h1
      cases e
      rfl
    have G3:Hid (bJ ⟨nm,fs,os,ms,es++[en],rs,gs⟩≤bJ ⟨nm,fs,os,ms,es,rs,gs⟩+50000):=by show _≤_;unfold bJ;simp only[zK];show fs.length+os.length+ms.length+(es.length+1)+rs.length+gs.length≤_;omega
    clear du hS Ok LA
    refine ⟨_,rfl,hK _ _ ⟨fun _=>jr,?_⟩⟩
    clear hK K hg hz hv cO hT
    simp only[Act.put,zL,zM,zN]
    refine aO 4 (by kernel_rfl) rfl (fun K hK=>?_)
    go_simp
    refine hK _ _ ⟨fun _=>bL jr _,?_⟩
    clear hK K
    refine aO 5 (by kernel_rfl) rfl (fun K hK=>?_)
    have Ae:W.heap.size≤w6.heap.size:=(aa jk).F.size
    have kL:=ab ((aa jk).s.alloc (.cells #[.string en.name,.slice a1 en.bT.length c1,.slice a2 en.res.length c2,.slice a3 en.gone.length c3] 71))
    refine dQ rfl (.tmp 68) (.tmp 71) 25 rfl l 71 d0 (.agg #[.string ⟨#[]⟩,.slice none 0 0,.slice none 0 0,.slice none 0 0]) 4 88 Tryz.underlying25 Af dz0 dz1 dz2 rfl (by decide) (.slice ea es.length ec) es.length (ce) (by first|rfl|simp[Act.eval]) ((aa kL).sl.own 3 _ rfl) ⟨w6.heap.size,0,none⟩ 1 1 [.string en.name,.slice a1 en.bT.length c1,.slice a2 en.res.length c2,.slice a3 en.gone.length c3] (by first|rfl|simp[Act.eval]) rfl (cN _ _ _) (by simp[Value.oneCell']) (by have:=(aa HB).1;unfold bJ at this;simp only at this;unfold maxLen;omega) (by have:=(aa HB).1;unfold bJ at this;simp only at this;omega) (by rw[zJ];omega) ?_
    intro v7 w7 dz cc jc
    obtain ⟨a7,c7,rfl⟩:=bY dz
    have fQ:w7.heap[W.heap.size]?=some (.cells #[.string nm,.slice fa fs.length fc,.slice oa os.length oc,.slice ma ms.length mc,.slice ea es.length ec,.slice ra rs.length rc,.slice ga gs.length gc] 49 (0,0)):=(aa kL).sl.lz (i:=3) rfl (by simp) (bL jr _) cc
    have ks:=aC (j:=4) fQ (.slice a7 (es.length+1) c7)
    have eW:Hid (nE W lo b l W.heap.size (W.heap.size+1) ti j3 (ti::(W.heap.size+1)::W.heap.size::L) ⟨nm,fs,os,ms,es++[en],rs,gs⟩ ⟨(fa,fc),(oa,oc),(ma,mc),(a7,c7),(ra,rc),(ga,gc),cm,ce++([.string en.name,.slice a1 en.bT.length c1,.slice a2 en.res.length c2,.slice a3 en.gone.length c3]:List Value)⟩ (aT (al (.ok s0) dd)) (w7.setCell ⟨W.heap.size,4,none⟩ (.slice a7 (es.length+1) c7))):=by
     refine (((aa jk).box (.cells #[.string en.name,.slice a1 en.bT.length c1,.slice a2 en.res.length c2,.slice a3 en.gone.length c3] 71)).Px (x':=⟨nm,fs,os,ms,es++[en],rs,gs⟩) (v':=⟨(fa,fc),(oa,oc),(ma,mc),(a7,c7),(ra,rc),(ga,gc),cm,ce++([.string en.name,.slice a1 en.bT.length c1,.slice a2 en.res.length c2,.slice a3 en.gone.length c3]:List Value)⟩) (aa HL).box ((aa jk).s.box _).ms (fH.app ((aa jk).s.box _).es (aa Wy)) (i:=3) rfl dz cc jc ?_ ?_ ks.2).less (L':=(ti::(W.heap.size+1)::W.heap.size::L)) (fun k hk=>zF _ hk)
     ·simp only[MV.ss,sY,zK]
      rfl
     ·simp only[MV.arr,zK]
      exact ks.1
    have Co:=(cL fQ).1.2.2.2.2.1
    have Ca:=(cL fQ).2 4
    refine hK _ _ ⟨fun _=>fQ,?_⟩
    clear hK K dz cc jc ks jr kL
    simp only[Act.put,zL]
    refine aO 6 (by kernel_rfl) rfl (fun K hK=>?_)
    go_simp
    refine hK _ _ ⟨fun _=>fQ,?_⟩
    clear hK K
    refine aO 7 (by kernel_rfl) rfl (fun K hK=>?_)
    go_simp
    refine hK _ _ ⟨fun q=>absurd rfl q,?_⟩
    clear hK K Co Ca fQ
    refine df (by kernel_rfl) ?_
    have hm:(w7.setCell ⟨W.heap.size,4,none⟩ (.slice a7 (es.length+1) c7)).heap[W.heap.size]?=some (.cells #[.string nm,.slice fa fs.length fc,.slice oa os.length oc,.slice ma ms.length mc,.slice a7 (es.length+1) c7,.slice ra rs.length rc,.slice ga gs.length gc] 49 (0,0)):=by first|exact (aa eW).m|(have h1:=(aa eW).m;simp only[MV.arr,zK] at h1;exact h1)
    have hr:(w7.setCell ⟨W.heap.size,4,none⟩ (.slice a7 (es.length+1) c7)).heap[W.heap.size+1]?=some (.cells #[.string ⟨#[]⟩,.slice none 0 0,.slice none 0 0,.slice none 0 0,.slice none 0 0,.slice none 0 0,.slice none 0 0] 49 (0,0)):=(aa eW).r
    have V7:=seen hm
    have V6:=seen hr
    have VK:=frzn hr
    obtain ⟨t1,t2⟩:=dM hr (.string nm) (.slice fa fs.length fc) (.slice oa os.length oc) (.slice ma ms.length mc) (.slice a7 (es.length+1) c7) (.slice ra rs.length rc) (.slice ga gs.length gc)
    have T1:=ab t1
    have T2:=ab ((aa eW).F.gA t2 (by omega))
    have T3:=ab ((aa eW).z.gA t2 (by omega))
    have T4:=ab (((aa eW).s.kept t2 (.inr (by simp))).less (L':=L) (fun k hk=>zF _ (zF _ (zF _ hk))))
    have T5:=ab (aa eW).og
    clear t1 t2 hm hr
    go_wp2
    refine bodyPost_ret (results_cell_row rfl _ _ (W.heap.size+1) 49 #[.string nm,.slice fa fs.length fc,.slice oa os.length oc,.slice ma ms.length mc,.slice a7 (es.length+1) c7,.slice ra rs.length rc,.slice ga gs.length gc] (0,0) _ rfl (aa T1) Tryz.underlying49 rfl j4) rfl ?_
    refine ⟨aa T2,by rw[←aa rY];exact aa T3,⟨nm,fs,os,ms,es++[en],rs,gs⟩,⟨(fa,fc),(oa,oc),(ma,mc),(a7,c7),(ra,rc),(ga,gc),cm,ce++([.string en.name,.slice a1 en.bT.length c1,.slice a2 en.res.length c2,.slice a3 en.gone.length c3]:List Value)⟩,by first|rfl|(simp only[MV.arr,zK];done)|(simp only[MV.arr,zK];rfl),aa T4,aa T5,?_,aa lM⟩
    exact (aa HB).next (aa G3) (aa wU)
   by_cases h3:tt=⟨#[111,110,101,111,102]⟩
   ·subst h3
    have Zu:=(aa ja).m
    obtain ⟨⟨TN,XF,TM,XE,cm4,cm5,cm6⟩,RQ⟩:=cL (show w3.heap[W.heap.size]?=some (.cells #[.string nm,.slice fa fs.length fc,.slice oa os.length oc,.slice ma ms.length mc,.slice ea es.length ec,.slice ra rs.length rc,.slice ga gs.length gc] 49 (0,0)) from Zu)
    clear RQ Zu
    go_wp2_with fail
    refine (LP (L:=(ti::(W.heap.size+1)::W.heap.size::L)) (x:=⟨nm,fs,os,ms,es,rs,gs⟩) (v:=⟨(fa,fc),(oa,oc),(ma,mc),(ea,ec),(ra,rc),(ga,gc),cm,ce⟩) (aa ja).z ⟨hl.1,by have:=(aa ja).F.size;omega⟩ (aa ja).s (aa HB) ⟨_,rfl⟩ (fun s e=>by cases e;exact bn.2 ⟨aa CS,aa oK⟩)).mono ?_
    rintro e w4 ⟨hF,hz,⟨yn,yf,yo,ym,ye,yr,yg⟩,⟨⟨f1,f2⟩,⟨o1,o2⟩,⟨m1,m2⟩,⟨e1,e2⟩,⟨r1,r2⟩,⟨g1,g2⟩,Qs,Qt⟩,rfl,hM,hO,P5,dC⟩
    rw[←Kw] at hF hO
    have hr:w4.heap[W.heap.size+1]?=some (.cells #[.string ⟨#[]⟩,.slice none 0 0,.slice none 0 0,.slice none 0 0,.slice none 0 0,.slice none 0 0,.slice none 0 0] 49 (0,0)):=(hF.block _ (gJ (aa ja).r) (by omega) (fun i sl hi hk=>(aa ja).s.sl.q i sl _ (by rw[←Kw];exact hi) hk (by simp))).trans (aa ja).r
    have hfo:F0=al (.ok s0) (fM ⟨nm,fs,os,ms,es,rs,gs⟩):=(aa HF).trans (Nt (aa CS) (aa oK))
    rw[←hfo] at hz P5 dC
    obtain ⟨⟨xE,xD,xC,cr3,cr4,cr5,cr6⟩,du⟩:=cL hr
    have um:=du 0
    have uk:=du 1
    have uj:=du 2
    have fr3:=du 3
    have fr4:=du 4
    have fr5:=du 5
    have fr6:=du 6
    obtain ⟨t1,t2⟩:=dM hr (.string yn) (.slice f1 yf.length f2) (.slice o1 yo.length o2) (.slice m1 ym.length m2) (.slice e1 ye.length e2) (.slice r1 yr.length r2) (.slice g1 yg.length g2)
    have T1:=ab t1
    have T2:=ab (((aa ja).F.trans hF).gA t2 (by omega))
    have T3:=ab (hz.gA t2 (by omega))
    have T4:=ab ((hM.kept t2 (.inr (by simp))).less (L':=L) (fun k hk=>zF _ (zF _ (zF _ hk))))
    have T5:=ab (hO.back (aa ja).F.size)
    have T6:=ab P5
    have T7:=ab dC
    clear t1 t2 hr du hF hz hM hO P5 dC hfo TN XF TM XE cm4 cm5 cm6
    unfold MV.arr
    go_wp2
    refine bodyPost_ret (results_cell_row rfl _ _ (W.heap.size+1) 49 #[.string yn,.slice f1 yf.length f2,.slice o1 yo.length o2,.slice m1 ym.length m2,.slice e1 ye.length e2,.slice r1 yr.length r2,.slice g1 yg.length g2] (0,0) _ rfl (aa T1) Tryz.underlying49 rfl j4) rfl ?_
    exact ⟨aa T2,aa T3,⟨yn,yf,yo,ym,ye,yr,yg⟩,⟨(f1,f2),(o1,o2),(m1,m2),(e1,e2),(r1,r2),(g1,g2),Qs,Qt⟩,rfl,aa T4,aa T5,aa T6,aa T7⟩
   by_cases h4:tt=⟨#[114,101,115,101,114,118,101,100]⟩
   ·subst h4
    have Zu:w3.heap[W.heap.size]?=some (.cells #[.string nm,.slice fa fs.length fc,.slice oa os.length oc,.slice ma ms.length mc,.slice ea es.length ec,.slice ra rs.length rc,.slice ga gs.length gc] 49 (0,0)):=(aa ja).m
    go_wp2_with fail
    refine (tf (aa ja).z (fun s e=>by cases e;exact bn.2 ⟨aa CS,aa oK⟩) false).mono ?_
    rintro e w4 ⟨hg,hz,v1,v2,l1,l2,rfl,N6,hlen,hv⟩
    have du:F0=bQ (al (.ok s0) (gI false)) (fun l s'=>.ok ((⟨nm,fs,os,ms,es,rs++l.1,gs++l.2⟩:Mp),s')):=(aa HF).trans (UN (aa CS) (aa oK))
    have rY:Hid (aT (al (.ok s0) (gI false))=aT F0):=by
     show _=_
     rw[du]
     cases al (.ok s0) (gI false) with
     |error y=>rfl
     |ok p=>rfl
    have lM:Hid (∀a s,F0=.ok (a,s)→a=(⟨nm,fs,os,ms,es,rs++l1,gs++l2⟩:Mp)):=fun a s e=>by
     rw[du] at e
     cases hr:al (.ok s0) (gI false) with
     |error y=>rw[hr] at e;cases e
     |ok p =>
      have h1:=hv p.1 p.2 hr
      rw[hr] at e
      obtain ⟨p1,p2⟩:=p
      dsimp only at h1
      subst h1
      cases e
      rfl
    have G3:Hid (bJ ⟨nm,fs,os,ms,es,rs++l1,gs++l2⟩≤bJ ⟨nm,fs,os,ms,es,rs,gs⟩+50000):=by
     show _≤_
     have h1:=hlen.1
     have h2:=hlen.2
     unfold bJ
     simp only[zK]
     omega
    have HBR:Hid (∀(i:Nat) (sl:Slot) (k:Nat),(MV.ss ⟨(fa,fc),(oa,oc),(ma,mc),(ea,ec),(ra,rc),(ga,gc),cm,ce⟩ ⟨nm,fs,os,ms,es,rs,gs⟩)[i]?=some sl→sl.v.ownBlock=some k→k<w3.heap.size):=fun i sl k h1 h2=>(((aa ja).s.sl.own i sl h1).lt k h2).2
    have IF:W.heap.size<w3.heap.size:=gJ Zu
    have PI:=ab ((aa ja).kept (aa HL) hg hz)
    have hm4:w4.heap[W.heap.size]?=some (.cells #[.string nm,.slice fa fs.length fc,.slice oa os.length oc,.slice ma ms.length mc,.slice ea es.length ec,.slice ra rs.length rc,.slice ga gs.length gc] 49 (0,0)):=(aa PI).m
    have Ua:=ab hm4
    have PK:=ab N6
    have CH:=ab hlen
    have abk:l≤w4.heap.size:=by have:=(aa PI).F.size;omega
    obtain ⟨va1,vc1,rfl⟩:=bY N6.r1
    obtain ⟨Qq,Qp,rfl⟩:=bY N6.r2
    clear hg hz N6 hlen hv du Zu
    obtain ⟨⟨V5,V4,V3,V2,cx4,cx5,cx6⟩,AY⟩:=cL hm4
    have fx5:=AY 5
    clear AY hm4
    have O1:Hid (rs.length+l1.length≤maxLen):=by have:=(aa HB).1;unfold bJ at this;simp only at this;have:=(aa CH).1;show _≤_;unfold maxLen;omega
    have O2:Hid ((rs.length+l1.length)*16≤140737488355328):=by have:=(aa HB).1;unfold bJ at this;simp only at this;have:=(aa CH).1;show _≤_;omega
    have O3:Hid (gs.length+l2.length≤maxLen):=by have:=(aa HB).1;unfold bJ at this;simp only at this;have:=(aa CH).2;show _≤_;unfold maxLen;omega
    have O4:Hid ((gs.length+l2.length)*16≤140737488355328):=by have:=(aa HB).1;unfold bJ at this;simp only at this;have:=(aa CH).2;show _≤_;omega
    have LO:Hid (∀w',w4.grownBy w' (Value.slice ra rs.length rc).ownBlock→w'.cell? ⟨W.heap.size,5,none⟩=some (.slice ra rs.length rc)∧w'.frozen? ⟨W.heap.size,5,none⟩=false):=fun w' hg=>by
     have h:=(aa PI).s.sl.lz (i:=4) (g:=W.heap.size) rfl (by simp) (aa Ua) hg
     exact ⟨(cL h).1.2.2.2.2.2.1,(cL h).2 5⟩
    go_upto_region 22 with (at_builtin;go_loud (refine iL rfl _ _ 47 rfl l 98 r0 (.agg #[.int .i64 0,.int .i64 0]) 2 16 Tryz.underlying47 NY rz0 rz1 rz2 rfl (by decide) (.slice ra rs.length rc) rs.length (qC rs) rfl ((aa PI).s.sl.own 4 _ rfl) (.slice va1 l1.length vc1) l1.length w3.heap.size (qC l1) rfl (aa PK).r1 (Mx _) (aa O1) (aa O2) abk ?_;intro v4 w5 eX dE jP;have EW:=ab eX;have rX:=ab dE;have PO:=ab jP;obtain ⟨a4,c4,rfl⟩:=bY eX;obtain ⟨abR,abA⟩:=aa LO w5 dE;clear eX dE jP))
    have Tz:w5.heap[W.heap.size]?=some (.cells #[.string nm,.slice fa fs.length fc,.slice oa os.length oc,.slice ma ms.length mc,.slice ea es.length ec,.slice ra rs.length rc,.slice ga gs.length gc] 49 (0,0)):=(aa PI).s.sl.lz (i:=4) (g:=W.heap.size) rfl (by simp) (aa Ua) (aa rX)
    have ks:=aC (j:=5) Tz (.slice a4 (rs.length+l1.length) c4)
    have XP:Hid (nE W lo b l W.heap.size (W.heap.size+1) ti j3 (ti::(W.heap.size+1)::W.heap.size::L) ⟨nm,fs,os,ms,es,rs++l1,gs⟩ ⟨(fa,fc),(oa,oc),(ma,mc),(ea,ec),(a4,c4),(ga,gc),cm,ce⟩ (aT (al (.ok s0) (gI false))) (w5.setCell ⟨W.heap.size,5,none⟩ (.slice a4 (rs.length+l1.length) c4))):=by
     refine (aa PI).app (x':=⟨nm,fs,os,ms,es,rs++l1,gs⟩) (v':=⟨(fa,fc),(oa,oc),(ma,mc),(ea,ec),(a4,c4),(ga,gc),cm,ce⟩) (aa HL) (i:=4) rfl (aa EW) (aa rX) (aa PO) ?_ rfl rfl rfl rfl ?_ ks.2
     ·simp only[MV.ss,sY,zK,xd]
      rfl
     ·simp only[MV.arr,zK]
      exact ks.1
    have H27:Hid ((w5.setCell ⟨W.heap.size,5,none⟩ (.slice a4 (rs.length+l1.length) c4)).ownsRow w3.heap.size 9 1 (.slice Qq l2.length Qp) l2.length (dV l2)):=by
     refine ((aa PK).r2.kept (aa rX) ?_).kept ks.2 ?_
     ·by_cases e:(Value.slice Qq l2.length Qp).ownBlock=none
      ·exact .inl e
      ·refine .inr (fun q=>?_)
       obtain ⟨m,hm⟩:=Option.ne_none_iff_exists'.1 e
       have h1:=((aa PK).r2.lt m hm).1
       have h2:=aa HBR 4 _ m rfl (by rw[←q];exact hm)
       omega
     ·by_cases e:(Value.slice Qq l2.length Qp).ownBlock=none
      ·exact .inl e
      ·refine .inr (fun q=>?_)
       have h1:=((aa PK).r2.lt W.heap.size q).1
       omega
    have abj:l≤(w5.setCell ⟨W.heap.size,5,none⟩ (.slice a4 (rs.length+l1.length) c4)).heap.size:=by have:=(aa XP).F.size;omega
    have PM:Hid ((w5.setCell ⟨W.heap.size,5,none⟩ (.slice a4 (rs.length+l1.length) c4)).heap[W.heap.size]?=some (.cells #[.string nm,.slice fa fs.length fc,.slice oa os.length oc,.slice ma ms.length mc,.slice ea es.length ec,.slice a4 (rs.length+l1.length) c4,.slice ga gs.length gc] 49 (0,0))):=ks.1
    clear Tz ks V5 V4 V3 V2 cx4 cx5 cx6 fx5 abR abA LO EW rX PO PI Ua PK HBR
    obtain ⟨⟨V5,V4,V3,V2,cx4,cx5,cx6⟩,AY⟩:=cL (aa PM)
    have fx6:=AY 6
    clear AY
    have LO:Hid (∀w',(w5.setCell ⟨W.heap.size,5,none⟩ (.slice a4 (rs.length+l1.length) c4)).grownBy w' (Value.slice ga gs.length gc).ownBlock→w'.cell? ⟨W.heap.size,6,none⟩=some (.slice ga gs.length gc)∧w'.frozen? ⟨W.heap.size,6,none⟩=false):=fun w' hg=>by
     have h:=(aa XP).s.sl.lz (i:=5) (g:=W.heap.size) rfl (by simp) (aa PM) hg
     exact ⟨(cL h).1.2.2.2.2.2.2,(cL h).2 6⟩
    go_upto_region 23 with (at_builtin;go_loud (refine iL rfl _ _ 22 rfl l 9 i0 (.string ⟨#[]⟩) 1 16 Tryz.underlying22 hi tZ tY jg rfl (by decide) (.slice ga gs.length gc) gs.length (dV gs) rfl ((aa XP).s.sl.own 5 _ rfl) (.slice Qq l2.length Qp) l2.length w3.heap.size (dV l2) rfl (aa H27) (Ij _) (aa O3) (aa O4) abj ?_;intro v5 w6 oe kY D';have Qj:=ab oe;have Jt:=ab kY;have XX:=ab D';obtain ⟨a5,c5,rfl⟩:=bY oe;obtain ⟨abQ,abz⟩:=aa LO w6 kY;clear oe kY D'))
    have jr:w6.heap[W.heap.size]?=some (.cells #[.string nm,.slice fa fs.length fc,.slice oa os.length oc,.slice ma ms.length mc,.slice ea es.length ec,.slice a4 (rs.length+l1.length) c4,.slice ga gs.length gc] 49 (0,0)):=(aa XP).s.sl.lz (i:=5) (g:=W.heap.size) rfl (by simp) (aa PM) (aa Jt)
    have ks:=aC (j:=6) jr (.slice a5 (gs.length+l2.length) c5)
    have eW:Hid (nE W lo b l W.heap.size (W.heap.size+1) ti j3 (ti::(W.heap.size+1)::W.heap.size::L) ⟨nm,fs,os,ms,es,rs++l1,gs++l2⟩ ⟨(fa,fc),(oa,oc),(ma,mc),(ea,ec),(a4,c4),(a5,c5),cm,ce⟩ (aT (al (.ok s0) (gI false))) (w6.setCell ⟨W.heap.size,6,none⟩ (.slice a5 (gs.length+l2.length) c5))):=by
     refine (aa XP).app (x':=⟨nm,fs,os,ms,es,rs++l1,gs++l2⟩) (v':=⟨(fa,fc),(oa,oc),(ma,mc),(ea,ec),(a4,c4),(a5,c5),cm,ce⟩) (aa HL) (i:=5) rfl (aa Qj) (aa Jt) (aa XX) ?_ rfl rfl rfl rfl ?_ ks.2
     ·simp only[MV.ss,sY,zK,mj]
      rfl
     ·simp only[MV.arr,zK]
      exact ks.1
    clear jr ks V5 V4 V3 V2 cx4 cx5 cx6 fx6 abQ abz LO Qj Jt XX XP PM H27
    have hm:(w6.setCell ⟨W.heap.size,6,none⟩ (.slice a5 (gs.length+l2.length) c5)).heap[W.heap.size]?=some (.cells #[.string nm,.slice fa fs.length fc,.slice oa os.length oc,.slice ma ms.length mc,.slice ea es.length ec,.slice a4 (rs.length+l1.length) c4,.slice a5 (gs.length+l2.length) c5] 49 (0,0)):=by first|exact (aa eW).m|(have h1:=(aa eW).m;simp only[MV.arr,zK] at h1;exact h1)
    have hr:(w6.setCell ⟨W.heap.size,6,none⟩ (.slice a5 (gs.length+l2.length) c5)).heap[W.heap.size+1]?=some (.cells #[.string ⟨#[]⟩,.slice none 0 0,.slice none 0 0,.slice none 0 0,.slice none 0 0,.slice none 0 0,.slice none 0 0] 49 (0,0)):=(aa eW).r
    have V7:=seen hm
    have V6:=seen hr
    have VK:=frzn hr
    obtain ⟨t1,t2⟩:=dM hr (.string nm) (.slice fa fs.length fc) (.slice oa os.length oc) (.slice ma ms.length mc) (.slice ea es.length ec) (.slice a4 (rs.length+l1.length) c4) (.slice a5 (gs.length+l2.length) c5)
    have T1:=ab t1
    have T2:=ab ((aa eW).F.gA t2 (by omega))
    have T3:=ab ((aa eW).z.gA t2 (by omega))
    have T4:=ab (((aa eW).s.kept t2 (.inr (by simp))).less (L':=L) (fun k hk=>zF _ (zF _ (zF _ hk))))
    have T5:=ab (aa eW).og
    clear t1 t2 hm hr
    go_wp2
    refine bodyPost_ret (results_cell_row rfl _ _ (W.heap.size+1) 49 #[.string nm,.slice fa fs.length fc,.slice oa os.length oc,.slice ma ms.length mc,.slice ea es.length ec,.slice a4 (rs.length+l1.length) c4,.slice a5 (gs.length+l2.length) c5] (0,0) _ rfl (aa T1) Tryz.underlying49 rfl j4) rfl ?_
    refine ⟨aa T2,by rw[←aa rY];exact aa T3,⟨nm,fs,os,ms,es,rs++l1,gs++l2⟩,⟨(fa,fc),(oa,oc),(ma,mc),(ea,ec),(a4,c4),(a5,c5),cm,ce⟩,by first|rfl|(simp only[MV.arr,zK];done)|(simp only[MV.arr,zK];rfl),aa T4,aa T5,?_,aa lM⟩
    exact (aa HB).next (aa G3) (aa wU)
   by_cases h5:tt=⟨#[109,97,112]⟩
   focus
    subst h5
    obtain ⟨KC,v9,TL,i,Ag,ht9,Xo,hi9,hL9⟩:=(aa ja).z.1
    obtain ⟨a9,c9,rfl,hc9,hm9,KM⟩:=ht9
    obtain ⟨⟨pn,pj,pM,pL,sV,qx⟩,jz⟩:=bG Ag
    clear jz Ag pM pL sV qx
    obtain ⟨j,rl⟩:∃j:Nat,j=i+1:=⟨_,rfl⟩
    have P6:wrap64 ((i:Int)+1)=(j:Int):=by rw[rl];exact eN ⟨by omega,by omega⟩
    have F6:s0.ts=TL.drop i:=Xo.symm
    have HAH:Hid (∀t,TL[j]?=some t→s0.ahead 1=t):=fun t ht=>by
     unfold ax.ahead
     rw[F6,List.getD_eq_getElem?_getD,List.getElem?_drop,←rl,ht]
     rfl
    have HAN:Hid (¬j<TL.length→s0.ahead 1=s0.en):=fun hn=>by
     unfold ax.ahead
     rw[F6,List.getD_eq_getElem?_getD,List.getElem?_drop,←rl,List.getElem?_eq_none (Nat.le_of_not_lt hn)]
     rfl
    clear Xo F6 rl hi9
    by_cases dr:j<TL.length
    focus
     have hq:decide ((j:Int)<(TL.length:Int))=true:=by simp;omega
     obtain ⟨g,off,rfl,yP,ada,tE⟩:=KM (by omega)
     obtain ⟨⟨tk9,tp9,tx9⟩,ht⟩:∃t,TL[j]?=some t:=⟨_,List.getElem?_eq_getElem dr⟩
     obtain ⟨x1,x2,x3⟩:=tE j _ ht
     have CU:=ab (aa HAH _ ht)
     have i0:(0:Int)≤(j:Int):=zH _
     have i1:(j:Int)<(TL.length:Int):=by omega
     clear tE ht KM HAH HAN dr
     by_cases k9:tk9=4
     focus
      subst k9
      by_cases x9:tx9=⟨#[60]⟩
      ·subst x9
       have Lu:Hid (aH (s0.ahead 1) 4 ⟨#[60]⟩=true):=by rw[aa CU];exact bn.2 ⟨rfl,rfl⟩
       have HMB:=ab (US (mf:=mf) (x:=⟨nm,fs,os,ms,es,rs,gs⟩) (aa CS) (aa oK) (aa Lu))
       clear CU Lu h1 h2 h3 h4
       go_upto_region 25 with fail
       go_quiet (fail)
       clear pn pj P6 hq x1 x2 x3 i0 i1
       have Wo:Hid (nE W lo b l W.heap.size (W.heap.size+1) ti j3 (ti::(W.heap.size+1)::W.heap.size::L) ⟨nm,fs,os,ms,es,rs,gs⟩ ⟨(fa,fc),(oa,oc),(ma,mc),(ea,ec),(ra,rc),(ga,gc),cm,ce⟩ (.ok s0) (w3.drewN nq)):=(aa ja).kept (aa HL) ⟨rfl,rfl,rfl,zD _,fun _ _ _=>rfl⟩ ((aa ja).z.Ul ⟨rfl,rfl,rfl,zD _,fun _ _=>rfl⟩)
       obtain ⟨w3,Vb⟩:∃w9,w9=w3.drewN nq:=⟨_,rfl⟩
       rw[←Vb] at Wo ⊢
       clear ja Fb Fa E' LL Vb
       have ja:=Wo
       clear Wo
       go_upto_region 26 with fail
       have hT:w3.drew.heap[W.heap.size]?=some (.cells #[.string nm,.slice fa fs.length fc,.slice oa os.length oc,.slice ma ms.length mc,.slice ea es.length ec,.slice ra rs.length rc,.slice ga gs.length gc] 49 (0,0)):=(aa ja).m
       refine wp_region_any (by kernel_rfl) (dL (z:=7) (T:=fun w=>w.heap[W.heap.size]?=some (.cells #[.string nm,.slice fa fs.length fc,.slice oa os.length oc,.slice ma ms.length mc,.slice ea es.length ec,.slice ra rs.length rc,.slice ga gs.length gc] 49 (0,0))) _ _ _ _ ?_)
       try (change dT _ _ _ _ _ _ _ _ _ (World.drew _))
       refine wpAnyZ_tk 0 (.pointer (some ⟨W.heap.size,1,none⟩)) 141 rfl rfl (Or.inl ⟨by rfl,fun w hw=>by go_simp⟩) hT ?_
       simp only[Act.put,zL,zM,zN]
       refine wpAnyZ_tk 1 (.slice fa fs.length fc) 142 rfl rfl (Or.inl ⟨by rfl,fun w hw=>by have c:=(cL hw).1.2.1;go_simp⟩) hT ?_
       simp only[Act.put,zL,zM,zN]
       refine wpAnyZ_tk 2 (.pointer (some ⟨b,0,none⟩)) 143 rfl rfl (Or.inl ⟨by rfl,fun w hw=>by go_simp⟩) hT ?_
       simp only[Act.put,zL,zM,zN]
       refine aO 3 (by kernel_rfl) rfl (fun K hK=>?_)
       refine eJ 144 rfl rfl 110 (GI _) #[.tmp 143] #[55] rfl #[.pointer (some ⟨b,0,none⟩)] (by first|rfl|simp[Act.eval]) (JA (R:=.ok s0) (show Zr lo w3.drew b (.ok s0) from (aa ja).z.drew) (fun s e=>by cases e;exact aa CS)) ?_
       rintro o6 w6 ⟨hg,hz,v6,rfl,⟨⟨dc,dk,dt,dn,dm,dq⟩,rfl⟩,hv⟩
       have cO:w3.grownBy w6 (some b):=⟨hg.os,hg.tape,hg.output,hg.size,hg.block⟩
       have jk:=ab ((aa ja).kept (aa HL) cO hz)
       have jr:w6.heap[W.heap.size]?=some (.cells #[.string nm,.slice fa fs.length fc,.slice oa os.length oc,.slice ma ms.length mc,.slice ea es.length ec,.slice ra rs.length rc,.slice ga gs.length gc] 49 (0,0)):=(aa jk).m
       have zS:∀a s,al (.ok s0) lr=.ok (a,s)→a=(⟨dc,dk,dt,dn,dm,dq⟩:Fd):=fun a s e=>by
        have h1:=hv a s e
        obtain ⟨q1,q2,q3,q4,q5,q6⟩:=a
        simp only[Fd.val,Fd.arr,Value.agg.injEq,Array.mk.injEq,List.cons.injEq,Value.int.injEq,Value.string.injEq,true_and,and_true] at h1
        obtain ⟨rfl,rfl,rfl,rfl,rfl,rfl⟩:=h1
        rfl
       have du:F0=lS ⟨nm,fs,os,ms,es,rs,gs⟩ (al (.ok s0) lr):=(aa HF).trans (aa HMB)
       have rY:Hid (aT (al (.ok s0) lr)=aT F0):=by
        show _=_
        rw[du]
        cases al (.ok s0) lr with
        |error y=>rfl
        |ok p=>rfl
       have lM:Hid (∀a s,F0=.ok (a,s)→a=(⟨nm,fs++[(⟨dc,dk,dt,dn,dm,dq⟩:Fd)],os,ms,es,rs,gs⟩:Mp)):=fun a s e=>by
        rw[du] at e
        cases hr:al (.ok s0) lr with
        |error y=>rw[hr] at e;cases e
        |ok p =>
         have:=zS p.1 p.2 hr
         rw[hr] at e
         obtain ⟨p1,p2⟩:=p
         dsimp only at this
         subst this
         cases e
         rfl
       have G3:Hid (bJ ⟨nm,fs++[(⟨dc,dk,dt,dn,dm,dq⟩:Fd)],os,ms,es,rs,gs⟩≤bJ ⟨nm,fs,os,ms,es,rs,gs⟩+50000):=by show _≤_;unfold bJ;simp only[zK];show fs.length+1+os.length+ms.length+es.length+rs.length+gs.length≤_;omega
       clear zS du
       refine ⟨_,rfl,hK _ _ ⟨fun _=>jr,?_⟩⟩
       clear hK K hg hz hv cO hT
       simp only[Act.put,zL,zM,zN,Fd.val,Fd.arr]
       refine aO 4 (by kernel_rfl) rfl (fun K hK=>?_)
       go_simp
       refine hK _ _ ⟨fun _=>bL jr _,?_⟩
       clear hK K
       refine aO 5 (by kernel_rfl) rfl (fun K hK=>?_)
       have Ae:W.heap.size≤w6.heap.size:=(aa jk).F.size
       have kL:=ab ((aa jk).s.alloc (.cells #[.int .i64 dc,.string dk,.string dt,.string dn,.int .i64 dm,.int .i64 dq] 45))
       refine dQ rfl (.tmp 142) (.tmp 145) 46 rfl l 45 j0 (.agg #[.int .i64 0,.string ⟨#[]⟩,.string ⟨#[]⟩,.string ⟨#[]⟩,.int .i64 0,.int .i64 0]) 6 72 Tryz.underlying46 hj Ti Th Tg rfl (by decide) (.slice fa fs.length fc) fs.length (mF fs) (by first|rfl|simp[Act.eval]) ((aa kL).sl.own 0 _ rfl) ⟨w6.heap.size,0,none⟩ 1 1 [.int .i64 dc,.string dk,.string dt,.string dn,.int .i64 dm,.int .i64 dq] (by first|rfl|simp[Act.eval]) rfl (cN _ _ _) (by simp[Value.oneCell']) (by have:=(aa HB).1;unfold bJ at this;simp only at this;unfold maxLen;omega) (by have:=(aa HB).1;unfold bJ at this;simp only at this;omega) (by rw[zJ];omega) ?_
       intro v7 w7 dz cc jc
       obtain ⟨a7,c7,rfl⟩:=bY dz
       have fQ:w7.heap[W.heap.size]?=some (.cells #[.string nm,.slice fa fs.length fc,.slice oa os.length oc,.slice ma ms.length mc,.slice ea es.length ec,.slice ra rs.length rc,.slice ga gs.length gc] 49 (0,0)):=(aa kL).sl.lz (i:=0) rfl (by simp) (bL jr _) cc
       have ks:=aC (j:=1) fQ (.slice a7 (fs.length+1) c7)
       have eW:Hid (nE W lo b l W.heap.size (W.heap.size+1) ti j3 (ti::(W.heap.size+1)::W.heap.size::L) ⟨nm,fs++[(⟨dc,dk,dt,dn,dm,dq⟩:Fd)],os,ms,es,rs,gs⟩ ⟨(a7,c7),(oa,oc),(ma,mc),(ea,ec),(ra,rc),(ga,gc),cm,ce⟩ (aT (al (.ok s0) lr)) (w7.setCell ⟨W.heap.size,1,none⟩ (.slice a7 (fs.length+1) c7))):=by
        refine (((aa jk).box (.cells #[.int .i64 dc,.string dk,.string dt,.string dn,.int .i64 dm,.int .i64 dq] 45)).app (x':=⟨nm,fs++[(⟨dc,dk,dt,dn,dm,dq⟩:Fd)],os,ms,es,rs,gs⟩) (v':=⟨(a7,c7),(oa,oc),(ma,mc),(ea,ec),(ra,rc),(ga,gc),cm,ce⟩) (aa HL).box (i:=0) rfl dz cc jc ?_ rfl rfl rfl rfl ?_ ks.2).less (L':=(ti::(W.heap.size+1)::W.heap.size::L)) (fun k hk=>zF _ hk)
        ·simp only[MV.ss,sY,zK,rz]
         rfl
        ·simp only[MV.arr,zK]
         exact ks.1
       have Co:=(cL fQ).1.2.1
       have Ca:=(cL fQ).2 1
       refine hK _ _ ⟨fun _=>fQ,?_⟩
       clear hK K dz cc jc ks jr kL
       simp only[Act.put,zL]
       refine aO 6 (by kernel_rfl) rfl (fun K hK=>?_)
       go_simp
       refine hK _ _ ⟨fun _=>fQ,?_⟩
       clear hK K
       refine aO 7 (by kernel_rfl) rfl (fun K hK=>?_)
       go_simp
       refine hK _ _ ⟨fun q=>absurd rfl q,?_⟩
       clear hK K Co Ca fQ
       refine df (by kernel_rfl) ?_
       have hm:(w7.setCell ⟨W.heap.size,1,none⟩ (.slice a7 (fs.length+1) c7)).heap[W.heap.size]?=some (.cells #[.string nm,.slice a7 (fs.length+1) c7,.slice oa os.length oc,.slice ma ms.length mc,.slice ea es.length ec,.slice ra rs.length rc,.slice ga gs.length gc] 49 (0,0)):=by first|exact (aa eW).m|(have h1:=(aa eW).m;simp only[MV.arr,zK] at h1;exact h1)
       have hr:(w7.setCell ⟨W.heap.size,1,none⟩ (.slice a7 (fs.length+1) c7)).heap[W.heap.size+1]?=some (.cells #[.string ⟨#[]⟩,.slice none 0 0,.slice none 0 0,.slice none 0 0,.slice none 0 0,.slice none 0 0,.slice none 0 0] 49 (0,0)):=(aa eW).r
       have V7:=seen hm
       have V6:=seen hr
       have VK:=frzn hr
       obtain ⟨t1,t2⟩:=dM hr (.string nm) (.slice a7 (fs.length+1) c7) (.slice oa os.length oc) (.slice ma ms.length mc) (.slice ea es.length ec) (.slice ra rs.length rc) (.slice ga gs.length gc)
       have T1:=ab t1
       have T2:=ab ((aa eW).F.gA t2 (by omega))
       have T3:=ab ((aa eW).z.gA t2 (by omega))
       have T4:=ab (((aa eW).s.kept t2 (.inr (by simp))).less (L':=L) (fun k hk=>zF _ (zF _ (zF _ hk))))
       have T5:=ab (aa eW).og
       clear t1 t2 hm hr
       go_wp2
       refine bodyPost_ret (results_cell_row rfl _ _ (W.heap.size+1) 49 #[.string nm,.slice a7 (fs.length+1) c7,.slice oa os.length oc,.slice ma ms.length mc,.slice ea es.length ec,.slice ra rs.length rc,.slice ga gs.length gc] (0,0) _ rfl (aa T1) Tryz.underlying49 rfl j4) rfl ?_
       refine ⟨aa T2,by rw[←aa rY];exact aa T3,⟨nm,fs++[(⟨dc,dk,dt,dn,dm,dq⟩:Fd)],os,ms,es,rs,gs⟩,⟨(a7,c7),(oa,oc),(ma,mc),(ea,ec),(ra,rc),(ga,gc),cm,ce⟩,by first|rfl|(simp only[MV.arr,zK];done)|(simp only[MV.arr,zK];rfl),aa T4,aa T5,?_,aa lM⟩
       exact (aa HB).next (aa G3) (aa wU)
      have n1:(tx9.toList==[60])=false:=tn x9
      have HNO:Hid (¬aH (s0.ahead 1) 4 ⟨#[60]⟩=true):=by rw[aa CU];exact fun q=>x9 (bn.1 q).2
      clear x9 CU
      go_upto_region 25 with fail
      go_quiet (fail)
      clear pn pj P6 hq x1 x2 x3 i0 i1 n1
     rotate_left
     focus
      have n1:(tk9==4)=false:=by simpa using k9
      have HNO:Hid (¬aH (s0.ahead 1) 4 ⟨#[60]⟩=true):=by rw[aa CU];exact fun q=>k9 (bn.1 q).1
      clear k9 CU
      go_upto_region 25 with fail
      go_quiet (fail)
      clear pn pj P6 hq x1 x2 x3 i0 i1 n1
    rotate_left 2
    focus
     have hq:decide ((j:Int)<(TL.length:Int))=false:=by simp;omega
     have lF:decide (j<TL.length)=false:=by simp;omega
     have HNO:Hid (¬aH (s0.ahead 1) 4 ⟨#[60]⟩=true):=by rw[aa HAN dr];exact gw (by rw[(aa zV).en];decide) _
     clear KM HAH HAN dr
     go_upto_region 25 with fail
     go_quiet (fail)
     clear pn pj P6 hq lF
    all_goals
     have HMB:Hid (nF mf ⟨nm,fs,os,ms,es,rs,gs⟩ s0=lS ⟨nm,fs,os,ms,es,rs,gs⟩ (gi s0)):=yC (fun q=>absurd ((aa CS).symm.trans (bn.1 q).1) (by decide)) (.inl (aa CS)) (fun W hW q=>by
      have e:=(aa oK).symm.trans (bn.1 q).2
      simp only[List.mem_cons,List.not_mem_nil,or_false] at hW
      rcases hW with rfl|rfl|rfl|rfl<;>exact absurd e (cb (by decide +kernel))) (fun q=>aa HNO q.2)
     clear h1 h2 h3 h4
     have Wo:Hid (nE W lo b l W.heap.size (W.heap.size+1) ti j3 (ti::(W.heap.size+1)::W.heap.size::L) ⟨nm,fs,os,ms,es,rs,gs⟩ ⟨(fa,fc),(oa,oc),(ma,mc),(ea,ec),(ra,rc),(ga,gc),cm,ce⟩ (.ok s0) (w3.drewN nq)):=(aa ja).kept (aa HL) ⟨rfl,rfl,rfl,zD _,fun _ _ _=>rfl⟩ ((aa ja).z.Ul ⟨rfl,rfl,rfl,zD _,fun _ _=>rfl⟩)
     obtain ⟨w3,Vb⟩:∃w9,w9=w3.drewN nq:=⟨_,rfl⟩
     rw[←Vb] at Wo ⊢
     clear ja Fb Fa E' LL Vb
     have ja:=Wo
     clear Wo
   rotate_left 3
   have HMB:Hid (nF mf ⟨nm,fs,os,ms,es,rs,gs⟩ s0=lS ⟨nm,fs,os,ms,es,rs,gs⟩ (gi s0)):=yC (fun q=>absurd ((aa CS).symm.trans (bn.1 q).1) (by decide)) (.inl (aa CS)) (fun W hW q=>by
    have e:=(aa oK).symm.trans (bn.1 q).2
    simp only[List.mem_cons,List.not_mem_nil,or_false] at hW
    rcases hW with rfl|rfl|rfl|rfl
    ·exact h1 e
    ·exact h2 e
    ·exact h3 e
    ·exact h4 e) (fun q=>h5 ((aa oK).symm.trans (bn.1 q.1).2))
   have n1:(tt.toList==[109,101,115,115,97,103,101])=false:=tn h1
   have n2:(tt.toList==[101,110,117,109])=false:=tn h2
   have n3:(tt.toList==[111,110,101,111,102])=false:=tn h3
   have n4:(tt.toList==[114,101,115,101,114,118,101,100])=false:=tn h4
   have n5:(tt.toList==[109,97,112])=false:=tn h5
   clear h1 h2 h3 h4 h5
  rotate_left 4
  ·have n1:(kt==4)=false:=by simpa using k4
   have n3:(kt != 1)=true:=by simpa using k1
   obtain ⟨eL,ki⟩:=DO (aa po) (aa HF) k1 (fun q=>k4 q.1) (fun q=>k4 q.1)
   have HW1:=ab eL
   have Lr:=ab ki
   clear eL ki k1 k4
   go_wp2_with fail
   refine (kM (aa ja).z).mono ?_
   rintro e w4 ⟨rfl,hg,hz⟩
   have eW:=ab ((aa ja).kept (aa HL) hg hz)
   have rY:=HW1
   have lM:=Lr
   have G3:Hid (bJ ⟨nm,fs,os,ms,es,rs,gs⟩≤bJ ⟨nm,fs,os,ms,es,rs,gs⟩+50000):=Nat.le_add_right _ _
   clear hg hz
   have hm:w4.heap[W.heap.size]?=some (.cells #[.string nm,.slice fa fs.length fc,.slice oa os.length oc,.slice ma ms.length mc,.slice ea es.length ec,.slice ra rs.length rc,.slice ga gs.length gc] 49 (0,0)):=by first|exact (aa eW).m|(have h1:=(aa eW).m;simp only[MV.arr,zK] at h1;exact h1)
   have hr:w4.heap[W.heap.size+1]?=some (.cells #[.string ⟨#[]⟩,.slice none 0 0,.slice none 0 0,.slice none 0 0,.slice none 0 0,.slice none 0 0,.slice none 0 0] 49 (0,0)):=(aa eW).r
   have V7:=seen hm
   have V6:=seen hr
   have VK:=frzn hr
   obtain ⟨t1,t2⟩:=dM hr (.string nm) (.slice fa fs.length fc) (.slice oa os.length oc) (.slice ma ms.length mc) (.slice ea es.length ec) (.slice ra rs.length rc) (.slice ga gs.length gc)
   have T1:=ab t1
   have T2:=ab ((aa eW).F.gA t2 (by omega))
   have T3:=ab ((aa eW).z.gA t2 (by omega))
   have T4:=ab (((aa eW).s.kept t2 (.inr (by simp))).less (L':=L) (fun k hk=>zF _ (zF _ (zF _ hk))))
   have T5:=ab (aa eW).og
   clear t1 t2 hm hr
   go_wp2
   refine bodyPost_ret (results_cell_row rfl _ _ (W.heap.size+1) 49 #[.string nm,.slice fa fs.length fc,.slice oa os.length oc,.slice ma ms.length mc,.slice ea es.length ec,.slice ra rs.length rc,.slice ga gs.length gc] (0,0) _ rfl (aa T1) Tryz.underlying49 rfl j4) rfl ?_
   refine ⟨aa T2,by rw[←aa rY];exact aa T3,⟨nm,fs,os,ms,es,rs,gs⟩,⟨(fa,fc),(oa,oc),(ma,mc),(ea,ec),(ra,rc),(ga,gc),cm,ce⟩,by first|rfl|(simp only[MV.arr,zK];done)|(simp only[MV.arr,zK];rfl),aa T4,aa T5,?_,aa lM⟩
   exact (aa HB).next (aa G3) (aa wU)
 all_goals
  go_upto_region 28 with fail
  have hT:w3.drew.heap[W.heap.size]?=some (.cells #[.string nm,.slice fa fs.length fc,.slice oa os.length oc,.slice ma ms.length mc,.slice ea es.length ec,.slice ra rs.length rc,.slice ga gs.length gc] 49 (0,0)):=(aa ja).m
  refine wp_region_any (by kernel_rfl) (dL (z:=7) (T:=fun w=>w.heap[W.heap.size]?=some (.cells #[.string nm,.slice fa fs.length fc,.slice oa os.length oc,.slice ma ms.length mc,.slice ea es.length ec,.slice ra rs.length rc,.slice ga gs.length gc] 49 (0,0))) _ _ _ _ ?_)
  try (change dT _ _ _ _ _ _ _ _ _ (World.drew _))
  refine wpAnyZ_tk 0 (.pointer (some ⟨W.heap.size,1,none⟩)) 149 rfl rfl (Or.inl ⟨by rfl,fun w hw=>by go_simp⟩) hT ?_
  simp only[Act.put,zL,zM,zN]
  refine wpAnyZ_tk 1 (.slice fa fs.length fc) 150 rfl rfl (Or.inl ⟨by rfl,fun w hw=>by have c:=(cL hw).1.2.1;go_simp⟩) hT ?_
  simp only[Act.put,zL,zM,zN]
  refine wpAnyZ_tk 2 (.pointer (some ⟨b,0,none⟩)) 151 rfl rfl (Or.inl ⟨by rfl,fun w hw=>by go_simp⟩) hT ?_
  simp only[Act.put,zL,zM,zN]
  refine aO 3 (by kernel_rfl) rfl (fun K hK=>?_)
  refine eJ 152 rfl rfl 111 (La _) #[.tmp 151] #[55] rfl #[.pointer (some ⟨b,0,none⟩)] (by first|rfl|simp[Act.eval]) (LQ (show Zr lo w3.drew b (.ok s0) from (aa ja).z.drew)) ?_
  rintro o6 w6 ⟨hg,hz,v6,rfl,⟨⟨dc,dk,dt,dn,dm,dq⟩,rfl⟩,hv⟩
  have cO:w3.grownBy w6 (some b):=⟨hg.os,hg.tape,hg.output,hg.size,hg.block⟩
  have jk:=ab ((aa ja).kept (aa HL) cO hz)
  have jr:w6.heap[W.heap.size]?=some (.cells #[.string nm,.slice fa fs.length fc,.slice oa os.length oc,.slice ma ms.length mc,.slice ea es.length ec,.slice ra rs.length rc,.slice ga gs.length gc] 49 (0,0)):=(aa jk).m
  have zS:∀a s,al (.ok s0) gi=.ok (a,s)→a=(⟨dc,dk,dt,dn,dm,dq⟩:Fd):=fun a s e=>by
   have h1:=hv a s e
   obtain ⟨q1,q2,q3,q4,q5,q6⟩:=a
   simp only[Fd.val,Fd.arr,Value.agg.injEq,Array.mk.injEq,List.cons.injEq,Value.int.injEq,Value.string.injEq,true_and,and_true] at h1
   obtain ⟨rfl,rfl,rfl,rfl,rfl,rfl⟩:=h1
   rfl
  have du:F0=lS ⟨nm,fs,os,ms,es,rs,gs⟩ (al (.ok s0) gi):=(aa HF).trans (aa HMB)
  have rY:Hid (aT (al (.ok s0) gi)=aT F0):=by
   show _=_
   rw[du]
   cases al (.ok s0) gi with
   |error y=>rfl
   |ok p=>rfl
  have lM:Hid (∀a s,F0=.ok (a,s)→a=(⟨nm,fs++[(⟨dc,dk,dt,dn,dm,dq⟩:Fd)],os,ms,es,rs,gs⟩:Mp)):=fun a s e=>by
   rw[du] at e
   cases hr:al (.ok s0) gi with
   |error y=>rw[hr] at e;cases e
   |ok p =>
    have:=zS p.1 p.2 hr
    rw[hr] at e
    obtain ⟨p1,p2⟩:=p
    dsimp only at this
    subst this
    cases e
    rfl
  have G3:Hid (bJ ⟨nm,fs++[(⟨dc,dk,dt,dn,dm,dq⟩:Fd)],os,ms,es,rs,gs⟩≤bJ ⟨nm,fs,os,ms,es,rs,gs⟩+50000):=by show _≤_;unfold bJ;simp only[zK];show fs.length+1+os.length+ms.length+es.length+rs.length+gs.length≤_;omega
  clear zS du
  refine ⟨_,rfl,hK _ _ ⟨fun _=>jr,?_⟩⟩
  clear hK K hg hz hv cO hT
  simp only[Act.put,zL,zM,zN,Fd.val,Fd.arr]
  refine aO 4 (by kernel_rfl) rfl (fun K hK=>?_)
  go_simp
  refine hK _ _ ⟨fun _=>bL jr _,?_⟩
  clear hK K
  refine aO 5 (by kernel_rfl) rfl (fun K hK=>?_)
  have Ae:W.heap.size≤w6.heap.size:=(aa jk).F.size
  have kL:=ab ((aa jk).s.alloc (.cells #[.int .i64 dc,.string dk,.string dt,.string dn,.int .i64 dm,.int .i64 dq] 45))
  refine dQ rfl (.tmp 150) (.tmp 153) 46 rfl l 45 j0 (.agg #[.int .i64 0,.string ⟨#[]⟩,.string ⟨#[]⟩,.string ⟨#[]⟩,.int .i64 0,.int .i64 0]) 6 72 Tryz.underlying46 hj Ti Th Tg rfl (by decide) (.slice fa fs.length fc) fs.length (mF fs) (by first|rfl|simp[Act.eval]) ((aa kL).sl.own 0 _ rfl) ⟨w6.heap.size,0,none⟩ 1 1 [.int .i64 dc,.string dk,.string dt,.string dn,.int .i64 dm,.int .i64 dq] (by first|rfl|simp[Act.eval]) rfl (cN _ _ _) (by simp[Value.oneCell']) (by have:=(aa HB).1;unfold bJ at this;simp only at this;unfold maxLen;omega) (by have:=(aa HB).1;unfold bJ at this;simp only at this;omega) (by rw[zJ];omega) ?_
  intro v7 w7 dz cc jc
  obtain ⟨a7,c7,rfl⟩:=bY dz
  have fQ:w7.heap[W.heap.size]?=some (.cells #[.string nm,.slice fa fs.length fc,.slice oa os.length oc,.slice ma ms.length mc,.slice ea es.length ec,.slice ra rs.length rc,.slice ga gs.length gc] 49 (0,0)):=(aa kL).sl.lz (i:=0) rfl (by simp) (bL jr _) cc
  have ks:=aC (j:=1) fQ (.slice a7 (fs.length+1) c7)
  have eW:Hid (nE W lo b l W.heap.size (W.heap.size+1) ti j3 (ti::(W.heap.size+1)::W.heap.size::L) ⟨nm,fs++[(⟨dc,dk,dt,dn,dm,dq⟩:Fd)],os,ms,es,rs,gs⟩ ⟨(a7,c7),(oa,oc),(ma,mc),(ea,ec),(ra,rc),(ga,gc),cm,ce⟩ (aT (al (.ok s0) gi)) (w7.setCell ⟨W.heap.size,1,none⟩ (.slice a7 (fs.length+1) c7))):=by
   refine (((aa jk).box (.cells #[.int .i64 dc,.string dk,.string dt,.string dn,.int .i64 dm,.int .i64 dq] 45)).app (x':=⟨nm,fs++[(⟨dc,dk,dt,dn,dm,dq⟩:Fd)],os,ms,es,rs,gs⟩) (v':=⟨(a7,c7),(oa,oc),(ma,mc),(ea,ec),(ra,rc),(ga,gc),cm,ce⟩) (aa HL).box (i:=0) rfl dz cc jc ?_ rfl rfl rfl rfl ?_ ks.2).less (L':=(ti::(W.heap.size+1)::W.heap.size::L)) (fun k hk=>zF _ hk)
   ·simp only[MV.ss,sY,zK,rz]
    rfl
   ·simp only[MV.arr,zK]
    exact ks.1
  have Co:=(cL fQ).1.2.1
  have Ca:=(cL fQ).2 1
  refine hK _ _ ⟨fun _=>fQ,?_⟩
  clear hK K dz cc jc ks jr kL
  simp only[Act.put,zL]
  refine aO 6 (by kernel_rfl) rfl (fun K hK=>?_)
  go_simp
  refine hK _ _ ⟨fun _=>fQ,?_⟩
  clear hK K
  refine aO 7 (by kernel_rfl) rfl (fun K hK=>?_)
  go_simp
  refine hK _ _ ⟨fun q=>absurd rfl q,?_⟩
  clear hK K Co Ca fQ
  refine df (by kernel_rfl) ?_
  have hm:(w7.setCell ⟨W.heap.size,1,none⟩ (.slice a7 (fs.length+1) c7)).heap[W.heap.size]?=some (.cells #[.string nm,.slice a7 (fs.length+1) c7,.slice oa os.length oc,.slice ma ms.length mc,.slice ea es.length ec,.slice ra rs.length rc,.slice ga gs.length gc] 49 (0,0)):=by first|exact (aa eW).m|(have h1:=(aa eW).m;simp only[MV.arr,zK] at h1;exact h1)
  have hr:(w7.setCell ⟨W.heap.size,1,none⟩ (.slice a7 (fs.length+1) c7)).heap[W.heap.size+1]?=some (.cells #[.string ⟨#[]⟩,.slice none 0 0,.slice none 0 0,.slice none 0 0,.slice none 0 0,.slice none 0 0,.slice none 0 0] 49 (0,0)):=(aa eW).r
  have V7:=seen hm
  have V6:=seen hr
  have VK:=frzn hr
  obtain ⟨t1,t2⟩:=dM hr (.string nm) (.slice a7 (fs.length+1) c7) (.slice oa os.length oc) (.slice ma ms.length mc) (.slice ea es.length ec) (.slice ra rs.length rc) (.slice ga gs.length gc)
  have T1:=ab t1
  have T2:=ab ((aa eW).F.gA t2 (by omega))
  have T3:=ab ((aa eW).z.gA t2 (by omega))
  have T4:=ab (((aa eW).s.kept t2 (.inr (by simp))).less (L':=L) (fun k hk=>zF _ (zF _ (zF _ hk))))
  have T5:=ab (aa eW).og
  clear t1 t2 hm hr
  go_wp2
  refine bodyPost_ret (results_cell_row rfl _ _ (W.heap.size+1) 49 #[.string nm,.slice a7 (fs.length+1) c7,.slice oa os.length oc,.slice ma ms.length mc,.slice ea es.length ec,.slice ra rs.length rc,.slice ga gs.length gc] (0,0) _ rfl (aa T1) Tryz.underlying49 rfl j4) rfl ?_
  refine ⟨aa T2,by rw[←aa rY];exact aa T3,⟨nm,fs++[(⟨dc,dk,dt,dn,dm,dq⟩:Fd)],os,ms,es,rs,gs⟩,⟨(a7,c7),(oa,oc),(ma,mc),(ea,ec),(ra,rc),(ga,gc),cm,ce⟩,by first|rfl|(simp only[MV.arr,zK];done)|(simp only[MV.arr,zK];rfl),aa T4,aa T5,?_,aa lM⟩
  exact (aa HB).next (aa G3) (aa wU)
end Go.Proofs.YtjophoclfccmcaaGreatDoor

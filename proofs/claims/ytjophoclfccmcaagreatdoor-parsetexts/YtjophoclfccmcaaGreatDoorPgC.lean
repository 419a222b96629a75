import Derived.Test.YtjophoclfccmcaaGreatDoorPgB
set_option maxHeartbeats 8000000
set_option maxRecDepth 100000
namespace Go.Proofs.YtjophoclfccmcaaGreatDoor
open Go.RowKit
attribute [local go_sem ↓] Go.wp_at_zero Go.wp_at_succ
theorem Cr (w:World) (vs:Array Value):(callFunc 39 vs).run Tryz.prog w=.ok (.enter 39 vs) w:=by
 have hn:¬Tryz.f39.name = "runtime.NumGoroutine" := by decide +kernel
 have hb:Tryz.f39.body.isSome=true:=by kernel_rfl
 obtain ⟨c,hc⟩:=zG hb
 simp[callFunc,Tryz.func39,hn,hc]
def fm (x:Fl):Mp:=⟨x.kH,[],x.fU,x.ms,x.es,[],[]⟩
def MV.CA (v:MV) (x:Fl):Array Value:=#[.string x.kH,.slice v.o.1 x.fU.length v.o.2,.slice v.m.1 x.ms.length v.m.2,.slice v.e.1 x.es.length v.e.2]
def E4:Array Value:=#[.string ⟨#[]⟩,.slice none 0 0,.slice none 0 0,.slice none 0 0]
structure CV (W:World) (lo b:Nat) (F0:Except (Int×Int) (Fl×ax)) (G:Fl→ax→Except (Int×Int) (Fl×ax)) (x:Fl) (v:MV) (pk:Bool) (R:PX) (w:World):Prop where
 g:W.grownBy w (some b)
 z:Zr lo w b R
 r:w.heap[W.heap.size]?=some (.cells E4 27 (0,0))
 m:w.heap[W.heap.size+1]?=some (.cells (v.CA x) 27 (0,0))
 s:nI W.heap.size [W.heap.size+1,W.heap.size] w (fm x) v
 f:F0=al R (G x)
 l:pO 1000000000 (bJ (fm x)) R
 o:∀s,R=.ok s→N5 s∧s.op=0∧(x.kH.toList==[])=!pk
theorem CV.kept {W w w':World}{lo b:Nat}{F0:Except (Int×Int) (Fl×ax)}{G G':Fl→ax→Except (Int×Int) (Fl×ax)}{x:Fl}{v:MV}{pk:Bool}{R R':PX} (h:CV W lo b F0 G x v pk R w) (hb:b<W.heap.size) (hg:w.grownBy w' (some b)) (hz:Zr lo w' b R') (hf:F0=al R' (G' x)) (hl:pO 1000000000 (bJ (fm x)) R') (ho:∀s,R'=.ok s→N5 s∧s.op=0∧(x.kH.toList==[])=!pk):CV W lo b F0 G' x v pk R' w' :=
 ⟨h.g.trans hg,hz,aw hg h.r (by omega),aw hg h.m (by omega),h.s.kept hg (.inl hb),hf,hl,ho⟩
theorem CV.app {W w w1:World}{lo b i j n':Nat}{F0:Except (Int×Int) (Fl×ax)}{G G':Fl→ax→Except (Int×Int) (Fl×ax)}{x x':Fl}{v v':MV}{pk:Bool}{R:PX}{sl:Slot}{u:Value}{sb:List Value} (h:CV W lo b F0 G x v pk R w) (jh:lo≤W.heap.size) (rT:eU (Nq W.heap.size [W.heap.size+1,W.heap.size] (v.ss (fm x))) w v'.cm x'.ms) (AZ:fH (Nq W.heap.size [W.heap.size+1,W.heap.size] (v.ss (fm x))) w v'.ce x'.es) (hi:(v.ss (fm x))[i]?=some sl) (ho:w1.ownsRow W.heap.size sl.t sl.sz u n' sb) (hg:w.grownBy w1 sl.v.ownBlock) (fp:u.ownBlock=sl.v.ownBlock∨u.ownBlock=some w.heap.size) (he:v'.ss (fm x')=(v.ss (fm x)).set i ⟨sl.t,sl.sz,u,n',sb⟩) (ha:(w1.setCell ⟨W.heap.size+1,j,none⟩ u).heap[W.heap.size+1]?=some (.cells (v'.CA x') 27 (0,0))) (hs:w1.grownBy (w1.setCell ⟨W.heap.size+1,j,none⟩ u) (some (W.heap.size+1))) (hf:F0=al R (G' x')) (hl:pO 1000000000 (bJ (fm x')) R) (ID:x'.kH=x.kH):CV W lo b F0 G' x' v' pk R (w1.setCell ⟨W.heap.size+1,j,none⟩ u) :=
 ⟨cy (h.s.sl.gA hi h.g (zD _) hg) hs (by omega),(h.s.sl.zr hi jh h.z hg).gA hs (by omega),aw hs (h.s.sl.lz hi (by simp) h.r hg) (by omega),ha,(h.s.Px (x':=fm x') rT AZ hi ho hg fp he).kept hs (.inr (by simp)),hf,hl,fun s e=>by rw[ID];exact h.o s e⟩
theorem CV.alloc {W w:World}{lo b:Nat}{F0:Except (Int×Int) (Fl×ax)}{G:Fl→ax→Except (Int×Int) (Fl×ax)}{x:Fl}{v:MV}{pk:Bool}{R:PX} (h:CV W lo b F0 G x v pk R w) (hb:b<W.heap.size) (ob:Obj):CV W lo b F0 G x v pk R (w.alloc ob):=h.kept hb (aM ((zE _ _).alloc (zD _) ob) (some b)) (h.z.up ((zE _ _).alloc (zD _) ob)) h.f h.l h.o
theorem Nq.less {l k:Nat}{L L':List Nat}{ss:List Slot} (h:Nq l L ss k) (hl:∀k ∈ L',k ∈ L):Nq l L' ss k:=⟨h.1,fun hm=>h.2.1 (hl k hm),h.2.2⟩
def FlQ (lo b:Nat) (W:World) (r:Except (Int×Int) (Fl×ax)) (e:Ending) (w:World):Prop:=W.grownBy w (some b)∧Zr lo w b (aT r)∧∃(x:Fl) (v:MV),e=.returned (.agg (v.CA x))∧nI W.heap.size [] w (fm x) v∧∀a s,r=.ok (a,s)→a=x
def YE:PX→Nat
 |.ok s=>s.ts.length
 |.error _=>0
theorem VR {x:Fl}{R:PX}{F0:Except (Int×Int) (Fl×ax)} (hg:lp R) (hq:(MW R&&decide (0<YE R))=false) (hf:F0=al R (ef x)):aT F0=R∧∀a s,F0=.ok (a,s)→a=x:=by
 subst hf
 match R,hg,hq with
 |.error y,_,_=>exact ⟨rfl,fun _ _ e=>(by cases e)⟩
 |.ok s,hg,hq =>
  have h0:¬0<s.ts.length:=by
   have h1:(true&&decide (0<s.ts.length))=false:=hq
   intro h2
   rw[decide_eq_true h2] at h1
   cases h1
  show aT (ef x s)=_∧∀a s',ef x s=.ok (a,s')→_
  rw[VS hg h0]
  exact ⟨rfl,fun a s' e=>by cases e;rfl⟩
theorem FJ {w:World}{g:Nat}{b0 b1 b2 b3:Value}{T:TypeId} (hr:w.heap[g]?=some (.cells #[b0,b1,b2,b3] T (0,0))) (a0 a1 a2 a3:Value):((((w.setCell ⟨g,0,none⟩ a0).setCell ⟨g,1,none⟩ a1).setCell ⟨g,2,none⟩ a2).setCell ⟨g,3,none⟩ a3).heap[g]?=some (.cells #[a0,a1,a2,a3] T (0,0))∧w.grownBy ((((w.setCell ⟨g,0,none⟩ a0).setCell ⟨g,1,none⟩ a1).setCell ⟨g,2,none⟩ a2).setCell ⟨g,3,none⟩ a3) (some g):=by
 obtain ⟨h0,g0⟩:=aC (j:=0) hr a0
 obtain ⟨h1,g1⟩:=aC (j:=1) h0 a1
 obtain ⟨h2,g2⟩:=aC (j:=2) h1 a2
 obtain ⟨h3,g3⟩:=aC (j:=3) h2 a3
 exact ⟨h3,((g0.trans g1).trans g2).trans g3⟩
theorem QR {s s':ax} (h:aT (al (aT (al (kI (.ok s)) (fun s=>ba false (lk false s)))) (au ⟨#[59]⟩))=.ok s'):jj s.nx s'∧∀p,(∀a s1,al (kI (.ok s)) (fun s=>ba false (lk false s))=.ok (a,s1)→Value.string p=.string a)→(p.toList==[])=false:=by
 rw[show al (kI (.ok s)) (fun s=>ba false (lk false s))=ba false s.nx from rfl] at h ⊢
 cases h1:ba false s.nx with
 |error y=>rw[h1] at h;cases h
 |ok q =>
  obtain ⟨a,s1⟩:=q
  rw[h1,show al (aT (.ok (a,s1))) (au ⟨#[59]⟩)=au ⟨#[59]⟩ s1 from rfl] at h
  cases h2:au ⟨#[59]⟩ s1 with
  |error y=>rw[h2] at h;cases h
  |ok r =>
   rw[h2] at h
   obtain rfl:r.2=s':=by simpa[aT] using h
   refine ⟨(fu h1).trans (bB h2),fun p hp=>?_⟩
   obtain rfl:p=a:=by simpa using hp a s1 rfl
   exact Gz h1
theorem GY {α:Type}{s s':ax}{r:Except (Int×Int) (α×ax)} (h:aT r=.ok s') (hg:∀a s1,r=.ok (a,s1)→Gt s s1):Gt s s':=by
 cases r with
 |error y=>cases h
 |ok q =>
  obtain ⟨a,s1⟩:=q
  obtain rfl:s1=s':=by simpa[aT] using h
  exact hg a s1 rfl
theorem Qn {W:World}{lo b:Nat}{s0:ax} (h:Zr lo W b (.ok s0)) (h5:N5 s0) (ho:s0.op=0):Calls Tryz.prog 21 #[.pointer (some ⟨b,0,none⟩)] W (FlQ lo b W (iB s0)):=by
 obtain ⟨i0,hi,tZ,tY,jg⟩:=info_parts rk
 obtain ⟨d0,Af,dz0,dz1,dz2⟩:=info_parts NI
 obtain ⟨g0,Ge,gz0,gz1,gz2⟩:=info_parts NG
 have cC:=h.low
 have eQ:b<W.heap.size:=by omega
 have bK:=(zE W.heap.size W).alloc (zD _) (.cells #[.string ⟨#[]⟩,.slice none 0 0,.slice none 0 0,.slice none 0 0] 27)
 have bo:=bK.alloc bK.size (.cells #[.string ⟨#[]⟩,.slice none 0 0,.slice none 0 0,.slice none 0 0] 27)
 have HZ:=ab (h.up bo)
 have HG:=ab (aM bo (some b))
 have lZ:Hid (Gd s0):=h.2
 have HN:=ab h5
 have HOP:=ab ho
 have Kx:((W.alloc (.cells #[.string ⟨#[]⟩,.slice none 0 0,.slice none 0 0,.slice none 0 0] 27)).alloc (.cells #[.string ⟨#[]⟩,.slice none 0 0,.slice none 0 0,.slice none 0 0] 27)).heap[W.heap.size]?=some (.cells #[.string ⟨#[]⟩,.slice none 0 0,.slice none 0 0,.slice none 0 0] 27 (0,0)):=bL (aF _ _) _
 have hqf:=aF (W.alloc (.cells #[.string ⟨#[]⟩,.slice none 0 0,.slice none 0 0,.slice none 0 0] 27)) (.cells #[.string ⟨#[]⟩,.slice none 0 0,.slice none 0 0,.slice none 0 0] 27)
 rw[zJ] at hqf
 have aW:=ab Kx
 have HQf:=ab hqf
 clear h h5 ho bK bo Kx hqf
 go_enter Tryz.func21,Tryz.ntmps21
 go_wp2_with fail
 refine (Jx (aa HZ)).mono ?_
 rintro e w1 ⟨hg,hz,v0,rfl,mA,-⟩
 obtain rfl:=mA
 rw[show al (.ok s0) Bv=Bv s0 from rfl] at hz
 have WE:=ab (Si (aa lZ) hz.2)
 have HSY:=ab (fun s'=>QD (s:=s0) (s':=s'))
 obtain ⟨F0,sM⟩:∃F0,F0=iB s0:=⟨_,rfl⟩
 obtain ⟨R4,IN⟩:∃R4,R4=aT (Bv s0):=⟨_,rfl⟩
 rw[←sM,←IN] at WE
 rw[←IN] at hz HSY
 have Fe:=ab sM
 have P1:nI W.heap.size [W.heap.size+1,W.heap.size] w1 (fm ⟨⟨#[]⟩,[],[],[]⟩) ⟨(none,0),(none,0),(none,0),(none,0),(none,0),(none,0),[],[]⟩:=by
  refine ⟨⟨fun i sl hs=>?_,fun i j a c hij ha hc k hk=>?_,fun i sl k hs hk=>?_,fun k hk=>?_⟩,.nil,.nil⟩
  ·match i,hs with
   |0,hs=>cases hs;exact World.ownsRow_nil _ _ _ _
   |1,hs=>cases hs;exact World.ownsRow_nil _ _ _ _
   |2,hs=>cases hs;exact World.ownsRow_nil _ _ _ _
   |3,hs=>cases hs;exact World.ownsRow_nil _ _ _ _
   |4,hs=>cases hs;exact World.ownsRow_nil _ _ _ _
   |5,hs=>cases hs;exact World.ownsRow_nil _ _ _ _
   |i+6,hs=>cases hs
  ·match i,ha with
   |0,ha=>cases ha;cases hk
   |1,ha=>cases ha;cases hk
   |2,ha=>cases ha;cases hk
   |3,ha=>cases ha;cases hk
   |4,ha=>cases ha;cases hk
   |5,ha=>cases ha;cases hk
   |i+6,ha=>cases ha
  ·match i,hs with
   |0,hs=>cases hs;cases hk
   |1,hs=>cases hs;cases hk
   |2,hs=>cases hs;cases hk
   |3,hs=>cases hs;cases hk
   |4,hs=>cases hs;cases hk
   |5,hs=>cases hs;cases hk
   |i+6,hs=>cases hs
  ·have e2:=Nat.lt_of_lt_of_le (gJ (aa HQf)) hg.size
   simp only[List.mem_cons,List.not_mem_nil,or_false] at hk
   rcases hk with rfl|rfl
   ·exact e2
   ·omega
 have HE:Hid (CV W lo b F0 ef ⟨⟨#[]⟩,[],[],[]⟩ ⟨(none,0),(none,0),(none,0),(none,0),(none,0),(none,0),[],[]⟩ false R4 w1):=⟨(aa HG).trans hg,hz,aw hg (aa aW) (by omega),aw hg (aa HQf) (by omega),P1,aa WE,⟨by unfold bJ fm;simp,fun s e=>by have:=hz.2;rw[e] at this;have:=Gd.len this;unfold bJ fm;simp;omega⟩,fun s e=>⟨(aa HN).gu (aa HSY s e),((aa HSY s e).op).trans (aa HOP),by show ((⟨#[]⟩:ByteArray).toList==[])=true;rw[ByteArray.toList_eq];rfl⟩⟩
 clear P1 HG HZ aW HQf WE HSY HN HOP lZ hg hz sM IN
 go_wp2
 go_loopg [4] (mR R4) (fun gk v4 wr=>∃(x:Fl) (v:MV) (Rk:PX) (pk:Bool),v4=.bool pk∧gk=mR Rk∧Hid (CV W lo b F0 ef x v pk Rk wr))
 case atStart=>exact ⟨_,_,R4,false,rfl,rfl,HE⟩
 case round =>
  clear HE
  obtain ⟨x,v,Rk,pk,rfl,dY,Aw⟩:=hrel
  have zz:=ab dY
  clear dY
  go_upto_region 4 with fail
  go_cut [23] from 7 to 87 (fun v23 wx=>v23=.bool (MW Rk&&decide (0<YE Rk))∧Hid (Below wr.heap.size wr wx))
  case first =>
   have hz:=(aa Aw).z.1
   cases Rk with
   |error y =>
    obtain ⟨KC,a9,n9,c9,i9,en9,ct9,Ag,YJ⟩:=hz
    obtain ⟨⟨pn,pj,pM,pL,sV,qx⟩,jz⟩:=bG Ag
    have e0:(y.1==0)=false:=beq_eq_false_iff_ne.2 YJ
    clear jz Ag pn pj pM pL qx YJ
    go_quiet (fail)
    go_wp2
    go_meet
    exact ⟨rfl,(⟨rfl,rfl,rfl,zD _,fun _ _=>rfl⟩:Below wr.heap.size wr (wr.drewN nq))⟩
   |ok s =>
    obtain ⟨KC,v9,TL,i,Ag,ht9,Xo,hi9,hL9⟩:=hz
    obtain ⟨a9,c9,rfl,hc9,hm9,KM⟩:=ht9
    obtain ⟨⟨pn,pj,pM,pL,sV,qx⟩,jz⟩:=bG Ag
    have F6:s.ts.length=TL.length-i:=by rw[show s.ts=TL.drop i from Xo.symm,List.length_drop]
    by_cases dr:i<TL.length
    ·have HV:Hid ((MW (.ok s)&&decide (0<YE (.ok s)))=true):=by show (true&&decide (0<s.ts.length))=true;rw[decide_eq_true (by omega)];rfl
     have hq:decide ((i:Int)<(TL.length:Int))=true:=by simp;omega
     clear jz Ag pM pL qx KM F6 Xo
     go_quiet (fail)
     go_wp2
     go_meet
     exact ⟨by rw[aa HV],(⟨rfl,rfl,rfl,zD _,fun _ _=>rfl⟩:Below wr.heap.size wr (wr.drewN nq))⟩
    ·have HV:Hid ((MW (.ok s)&&decide (0<YE (.ok s)))=false):=by show (true&&decide (0<s.ts.length))=false;rw[decide_eq_false (by omega)];rfl
     have hq:decide ((i:Int)<(TL.length:Int))=false:=by simp;omega
     have lF:decide (i<TL.length)=false:=by simp;omega
     clear jz Ag pM pL qx KM F6 Xo
     go_quiet (fail)
     go_wp2
     go_meet
     exact ⟨by rw[aa HV],(⟨rfl,rfl,rfl,zD _,fun _ _=>rfl⟩:Below wr.heap.size wr (wr.drewN nq))⟩
  case rest =>
  obtain ⟨zY,fV⟩:∃x,x=wc:=⟨_,rfl⟩
  subst fV
  obtain ⟨rfl,hb⟩:=hcut
  have jY:=ab ((aa Aw).kept eQ (aM (aa hb) (some b)) ((aa Aw).z.up (aa hb)) (aa Aw).f (aa Aw).l (aa Aw).o)
  clear hb Aw
  obtain ⟨q,hq⟩:∃q,(MW Rk&&decide (0<YE Rk))=q:=⟨_,rfl⟩
  rw[hq]
  have jw:=ab hq
  clear hq
  obtain ⟨pg,im,xm,xe⟩:=x
  obtain ⟨⟨fa,fc⟩,⟨oa,oc⟩,⟨ma,mc⟩,⟨ea,ec⟩,⟨ra,rc⟩,⟨ga,gc⟩,cm,ce⟩:=v
  cases q with
  |true =>
   obtain ⟨s,rfl,dN⟩:∃s,Rk=.ok s∧0<s.ts.length:=by
    have hq:=aa jw
    match Rk,hq with
    |.error y,hq=>cases hq
    |.ok s,hq=>exact ⟨s,rfl,by have:(true&&decide (0<s.ts.length))=true:=hq;simpa using this⟩
   have zV:Hid (Gd s):=(aa jY).z.2
   have yN:F0=al (aT (al (.ok s) (dp xx))) (gC ⟨pg,im,xm,xe⟩):=by
    rw[←Oz (aa zV) ((aa jY).o s rfl).1 dN]
    exact (aa jY).f
   have Qi:=ab yN
   clear yN jw
   have HW:=ab (mV zY xx 9)
   have pd:=(zE zY.heap.size zY).alloc (zD _) (.cells #[.string ⟨#[111,112,116,105,111,110]⟩,.string ⟨#[115,101,114,118,105,99,101]⟩,.string ⟨#[101,120,116,101,110,100]⟩] 9)
   have Jo:=ab ((aa jY).z.up pd)
   have Lt:=ab (aM pd (some b))
   clear pd
   go_wp2_with fail
   refine (hJ (aa Jo) (aa HW)).mono ?_
   rintro e JG ⟨hg,hz,v0,rfl,mA,-⟩
   obtain rfl:=mA
   obtain ⟨R5,uh⟩:∃R5,R5=aT (al (.ok s) (dp xx)):=⟨_,rfl⟩
   have jM:∀s',R5=.ok s'→s'=s:=by
    intro s' e
    rw[uh,show al (.ok s) (dp xx)=dp xx s from rfl] at e
    unfold dp at e
    split at e
    ·cases e
    ·cases e;rfl
   rw[←uh] at hz
   have PJ:Hid (F0=al R5 (gC ⟨pg,im,xm,xe⟩)):=by rw[uh];exact aa Qi
   have CG:=ab jM
   have Ju:=ab ((aa jY).kept (G':=gC) eQ ((aa Lt).trans hg) hz (aa PJ) ⟨(aa jY).l.1,fun s' e=>by rw[jM s' e];exact (aa jY).l.2 s rfl⟩ (fun s' e=>by rw[jM s' e];exact (aa jY).o s rfl))
   clear jY
   clear hg hz jM uh Qi PJ HW Jo Lt
   go_wp2_with fail
   refine (iw (aa Ju).z 4 (by decide) ⟨#[59]⟩).mono ?_
   rintro e w23 ⟨rfl,hb⟩
   have xQ:=ab ((aa Ju).kept (G':=gC) eQ (aM hb (some b)) ((aa Ju).z.up hb) (aa Ju).f (aa Ju).l (aa Ju).o)
   clear Ju
   clear hb
   obtain ⟨q,hq⟩:∃q,gd R5 4 ⟨#[59]⟩=q:=⟨_,rfl⟩
   rw[hq]
   have G1:=ab hq
   clear hq
   cases q with
   |true =>
    obtain ⟨s1,rfl,nG⟩:=fE (aa G1)
    obtain rfl:=aa CG s1 rfl
    have IE:s1.nx.ts.length=s1.ts.length-1:=List.length_tail
    have o8:F0=al (kI (.ok s1)) (ef ⟨pg,im,xm,xe⟩):=by
     show F0=ef _ s1.nx
     rw[←Kf nG]
     exact (aa xQ).f
    have ue:pO 1000000000 (bJ (fm ⟨pg,im,xm,xe⟩)) (kI (.ok s1)):=(aa xQ).l.next (by omega) (fun s' e=>by cases e;omega)
    have ho2:∀s',kI (.ok s1)=.ok s'→N5 s'∧s'.op=0∧(pg.toList==[])=!pk:=fun s' e=>by
     cases e
     have h1:=(aa xQ).o s1 rfl
     exact ⟨h1.1.gu (jj.tail rfl ⟨rfl,rfl⟩),h1.2⟩
    obtain ⟨i,ci,fi,bF,AX⟩:=(aa xQ).z.next (fun s' e=>by cases e;exact dN)
    obtain ⟨g1,z1⟩:=bF (wrap64 (i+1)) (fun s e=>eN (AX s e))
    have lM:=ab ((aa xQ).kept (G':=ef) eQ g1 z1 o8 ue ho2)
    have HM:Hid (mR (kI (.ok s1))<gk):=by have:=aa zz;show s1.nx.ts.length+1<gk;rw[this];show _<s1.ts.length+1;omega
    clear g1 z1 bF AX o8 ue ho2 nG IE xQ
    go_wp2
    go_roundg (mR (kI (.ok s1)))
    case measure=>exact aa HM
    case rel=>exact ⟨_,_,_,pk,rfl,rfl,lM⟩
   |false =>
    go_upto_region 9 with fail
    go_cut [39] from 7 to 87 (fun v39 wx=>v39=.bool (gd R5 1 qV&&!pk)∧Hid (Below w23.heap.size w23 wx))
    case first =>
     go_wp2_with fail
     refine (iw (aa xQ).z 1 (by decide) qV).mono ?_
     rintro e w0 ⟨rfl,hb⟩
     have HB:=ab hb
     clear hb
     obtain ⟨q,hq⟩:∃q,gd R5 1 qV=q:=⟨_,rfl⟩
     rw[hq]
     have HQ:=ab hq
     clear hq
     cases q with
     |true =>
      cases pk with
      |true=>go_wp2;go_meet;exact ⟨by rw[aa HQ];rfl,HB⟩
      |false=>go_wp2;go_meet;exact ⟨by rw[aa HQ];rfl,HB⟩
     |false=>go_wp2;go_meet;exact ⟨by rw[aa HQ];rfl,HB⟩
    case rest =>
    obtain ⟨WS,fV⟩:∃x,x=wc:=⟨_,rfl⟩
    subst fV
    obtain ⟨rfl,hb⟩:=hcut
    have fD:=ab ((aa xQ).kept (G':=gC) eQ (aM (aa hb) (some b)) ((aa xQ).z.up (aa hb)) (aa xQ).f (aa xQ).l (aa xQ).o)
    clear hb xQ
    obtain ⟨q,hq⟩:∃q,(gd R5 1 qV&&!pk)=q:=⟨_,rfl⟩
    rw[hq]
    have wT:=ab hq
    clear hq
    cases q with
    |true =>
     obtain ⟨N4,xv⟩:gd R5 1 qV=true∧pk=false:=by
      have h:=aa wT
      cases h1:gd R5 1 qV with
      |false=>rw[h1] at h;cases h
      |true=>cases pk with
       |false=>exact ⟨rfl,rfl⟩
       |true=>rw[h1] at h;cases h
     obtain ⟨s1,rfl,nG⟩:=fE N4
     obtain rfl:=aa CG s1 rfl
     have pH:¬aH s1.here 4 ⟨#[59]⟩=true:=by rw[show aH s1.here 4 ⟨#[59]⟩=false from aa G1];decide
     subst xv
     have Zh:(pg.toList==[])=true:=((aa fD).o s1 rfl).2.2
     have HFP:=ab (fun np hv=>Nf (x:=⟨pg,im,xm,xe⟩) (p:=np) pH nG Zh hv)
     obtain ⟨i,ci,fi,bF,AX⟩:=(aa fD).z.next (fun s' e=>by cases e;exact dN)
     obtain ⟨g1,z1⟩:=bF (wrap64 (i+1)) (fun s e=>eN (AX s e))
     have td:=ab g1
     have Qg:=ab z1
     clear g1 z1 bF AX nG pH Zh
     go_wp2_with fail
     refine (l7 (aa Qg) false false).mono ?_
     rintro e C' ⟨hg,hz,v6,rfl,⟨np,rfl⟩,hv⟩
     have B3:=(aa td).trans hg
     have jr:C'.heap[W.heap.size+1]?=some (.cells #[.string pg,.slice oa im.length oc,.slice ma xm.length mc,.slice ea xe.length ec] 27 (0,0)):=aw B3 (aa fD).m (by omega)
     have ks:=aC (j:=0) jr (.string np)
     have Co:=(ck jr).1.1
     have Ca:=(ck jr).2 0
     have hz7:=hz.gA ks.2 (by omega)
     have HZ7:=ab hz7
     have HSB:=ab ks
     have Ue:=ab B3
     have HV:=ab hv
     clear hg hz B3 jr ks hz7 hv
     go_wp2_with fail
     refine (eZ (aa HZ7) ⟨#[59]⟩).mono ?_
     rintro e w27 ⟨hg,hz,v7,rfl,mA,-⟩
     obtain rfl:=mA
     have o8:F0=al (aT (al (aT (al (kI (.ok s1)) (fun s=>ba false (lk false s)))) (au ⟨#[59]⟩))) (ef ⟨np,im,xm,xe⟩):=by
      rw[←aa HFP np (aa HV)]
      exact (aa fD).f
     have tS:=ab (fun s'=>QR (s:=s1) (s':=s'))
     obtain ⟨R8,hR8⟩:∃R8,R8=aT (al (aT (al (kI (.ok s1)) (fun s=>ba false (lk false s)))) (au ⟨#[59]⟩)):=⟨_,rfl⟩
     rw[←hR8] at o8 tS hz
     have IE:s1.nx.ts.length=s1.ts.length-1:=List.length_tail
     have hle:∀s',R8=.ok s'→s'.ts.length<s1.ts.length:=fun s' e=>by have:=((aa tS s' e).1).len;omega
     have lM:Hid (CV W lo b F0 ef ⟨np,im,xm,xe⟩ ⟨(fa,fc),(oa,oc),(ma,mc),(ea,ec),(ra,rc),(ga,gc),cm,ce⟩ true R8 w27):=by
      have h1:=(aa fD).o s1 rfl
      refine ⟨(cy ((aa fD).g.trans (aa Ue)) (aa HSB).2 (by omega)).trans hg,hz,aw hg (aw (aa HSB).2 (aw (aa Ue) (aa fD).r (by omega)) (by omega)) (by omega),aw hg (aa HSB).1 (by omega),?_,o8,(aa fD).l.next (L':=bJ (fm ⟨np,im,xm,xe⟩)) (by unfold bJ fm;simp only;omega) hle,fun s' e=>⟨?_,?_,(aa tS s' e).2 np (aa HV)⟩⟩
      ·have h2:=(((aa fD).s.kept (aa Ue) (.inl eQ)).kept (aa HSB).2 (.inr (by simp))).kept hg (.inl eQ)
       exact ⟨h2.sl,h2.ms,h2.es⟩
      ·exact (h1.1.gu (s':=s1.nx) (jj.tail rfl ⟨rfl,rfl⟩)).gu (aa tS s' e).1
      ·exact ((aa tS s' e).1).op.trans h1.2.1
     have HM:Hid (mR R8<gk):=by
      have h1:=aa zz
      show _<gk
      rw[h1]
      cases hr:R8 with
      |error y=>show 0<s1.ts.length+1;omega
      |ok s'=>have:=hle s' hr;show s'.ts.length+1<s1.ts.length+1;omega
     clear hg hz o8 hR8 IE hle tS HFP td Qg HZ7 HSB Ue HV Co Ca fD
     go_wp2
     go_roundg (mR R8)
     case measure=>exact aa HM
     case rel=>exact ⟨_,_,_,true,rfl,rfl,lM⟩
    |false =>
     have zQ:=fD
     clear fD
     go_wp2_with fail
     refine (iw (aa zQ).z 1 (by decide) j6).mono ?_
     rintro e zR ⟨rfl,hb⟩
     have fD:=ab ((aa zQ).kept (G':=gC) eQ (aM hb (some b)) ((aa zQ).z.up hb) (aa zQ).f (aa zQ).l (aa zQ).o)
     clear hb zQ
     obtain ⟨q,hq⟩:∃q,gd R5 1 j6=q:=⟨_,rfl⟩
     rw[hq]
     have HQ3:=ab hq
     clear hq
     cases q with
     |true =>
      obtain ⟨s1,rfl,nG⟩:=fE (aa HQ3)
      obtain rfl:=aa CG s1 rfl
      have XT:Hid (¬aH s1.here 4 ⟨#[59]⟩=true):=by show ¬_;rw[show aH s1.here 4 ⟨#[59]⟩=false from aa G1];decide
      have CQ:=ab nG
      clear nG
      obtain ⟨s,Kw⟩:∃s,s=s1:=⟨_,rfl⟩
      subst Kw
      go_upto_region 15 with fail
      have hT:zR.drew.heap[W.heap.size+1]?=some (.cells #[.string pg,.slice oa im.length oc,.slice ma xm.length mc,.slice ea xe.length ec] 27 (0,0)):=(aa fD).m
      refine wp_region_any (by kernel_rfl) (dL (z:=7) (T:=fun w=>w.heap[W.heap.size+1]?=some (.cells #[.string pg,.slice oa im.length oc,.slice ma xm.length mc,.slice ea xe.length ec] 27 (0,0))) _ _ _ _ ?_)
      try (change dT _ _ _ _ _ _ _ _ _ (World.drew _))
      refine wpAnyZ_tk 0 (.pointer (some ⟨W.heap.size+1,1,none⟩)) 61 rfl rfl (Or.inl ⟨by rfl,fun w hw=>by go_simp⟩) hT ?_
      simp only[Act.put,zL,zM,zN]
      refine wpAnyZ_tk 1 (.slice oa im.length oc) 62 rfl rfl (Or.inl ⟨by rfl,fun w hw=>by have c:=(ck hw).1.2.1;go_simp⟩) hT ?_
      simp only[Act.put,zL,zM,zN]
      refine wpAnyZ_tk 2 (.pointer (some ⟨b,0,none⟩)) 63 rfl rfl (Or.inl ⟨by rfl,fun w hw=>by go_simp⟩) hT ?_
      simp only[Act.put,zL,zM,zN]
      refine aO 3 (by kernel_rfl) rfl (fun K hK=>?_)
      refine eJ 64 rfl rfl 39 (Cr _) #[.tmp 63] #[55] rfl #[.pointer (some ⟨b,0,none⟩)] (by first|rfl|simp[Act.eval]) (CY (R:=.ok s) (show Zr lo zR.drew b (.ok s) from (aa fD).z.drew) (fun s' e=>by cases e;exact aa CQ)) ?_
      rintro o6 w6 ⟨hg,hz,v6,rfl,⟨d,rfl⟩,hv⟩
      have cO:zR.grownBy w6 (some b):=⟨hg.os,hg.tape,hg.output,hg.size,hg.block⟩
      have nz:Hid (F0=al (aT (al (.ok s) bA)) (ef ⟨pg,im++[d],xm,xe⟩)):=by
       refine (aa fD).f.trans ?_
       exact Nh (x:=⟨pg,im,xm,xe⟩) (aa XT) (fun q=>absurd ((bn.1 q).2.symm.trans (bn.1 (aa CQ)).2) (cb (by decide +kernel))) (aa CQ) hv
      have tS:Hid (∀s',aT (al (.ok s) bA)=.ok s'→Gt s s'):=fun s' e=>GY e (fun a s1 h=>oo h)
      have HL7:Hid (pO 1000000000 (bJ (fm ⟨pg,im++[d],xm,xe⟩)) (aT (al (.ok s) bA))):=(aa fD).l.next (by unfold bJ fm;simp only[zK];show 0+(im.length+1)+xm.length+xe.length+0+0≤_;simp only[List.length_nil];omega) (fun s' e=>dS (aa tS s' e) dN)
      have HL6:Hid (pO 1000000000 (bJ (fm ⟨pg,im,xm,xe⟩)) (aT (al (.ok s) bA))):=(aa fD).l.next (by omega) (fun s' e=>dS (aa tS s' e) dN)
      have HO6:Hid (∀s',aT (al (.ok s) bA)=.ok s'→N5 s'∧s'.op=0∧(pg.toList==[])=!pk):=fun s' e=>by
       have h1:=(aa fD).o s rfl
       have h2:=(aa tS s' e).gu
       exact ⟨h1.1.gu h2,h2.op.trans h1.2.1,h1.2.2⟩
      have HM:Hid (mR (aT (al (.ok s) bA))<gk):=by
       have h1:=aa zz
       show _<gk
       rw[h1]
       cases hr:aT (al (.ok s) bA) with
       |error y=>show 0<s.ts.length+1;omega
       |ok s'=>have:=dS (aa tS s' hr) dN;show s'.ts.length+1<s.ts.length+1;omega
      have HO1:Hid (im.length+1≤maxLen):=by have:=(aa fD).l.1;unfold bJ fm at this;simp only at this;show _≤_;unfold maxLen;omega
      have Wx:Hid ((im.length+1)*16≤140737488355328):=by have:=(aa fD).l.1;unfold bJ fm at this;simp only at this;show _≤_;omega
      have jk:Hid (CV W lo b F0 (fun x' s'=>ef ⟨pg,im++[d],xm,xe⟩ s') ⟨pg,im,xm,xe⟩ ⟨(fa,fc),(oa,oc),(ma,mc),(ea,ec),(ra,rc),(ga,gc),cm,ce⟩ pk (aT (al (.ok s) bA)) w6):=(aa fD).kept eQ cO hz (aa nz) (aa HL6) (aa HO6)
      have jr:w6.heap[W.heap.size+1]?=some (.cells #[.string pg,.slice oa im.length oc,.slice ma xm.length mc,.slice ea xe.length ec] 27 (0,0)):=(aa jk).m
      refine ⟨_,rfl,hK _ _ ⟨fun _=>jr,?_⟩⟩
      clear hK K hg hz hv cO hT
      simp only[Act.put,zL,zM,zN]
      refine aO 4 (by kernel_rfl) rfl (fun K hK=>?_)
      go_simp
      refine hK _ _ ⟨fun _=>bL jr _,?_⟩
      clear hK K
      refine aO 5 (by kernel_rfl) rfl (fun K hK=>?_)
      have Ae:W.heap.size≤w6.heap.size:=(aa jk).g.size
      have kL:=ab ((aa jk).alloc eQ (.cells #[.string d] 9))
      refine dQ rfl (.tmp 62) (.tmp 65) 22 rfl W.heap.size 9 i0 (.string ⟨#[]⟩) 1 16 Tryz.underlying22 hi tZ tY jg rfl (by decide) (.slice oa im.length oc) im.length (dV im) (by first|rfl|simp[Act.eval]) ((aa kL).s.sl.own 1 _ rfl) ⟨w6.heap.size,0,none⟩ 1 1 [.string d] (by first|rfl|simp[Act.eval]) rfl (cN _ _ _) (by simp[Value.oneCell']) (aa HO1) (aa Wx) (by rw[zJ];omega) ?_
      intro v7 w7 dz cc jc
      obtain ⟨a7,c7,rfl⟩:=bY dz
      have fQ:w7.heap[W.heap.size+1]?=some (.cells #[.string pg,.slice oa im.length oc,.slice ma xm.length mc,.slice ea xe.length ec] 27 (0,0)):=(aa kL).s.sl.lz (i:=1) rfl (by simp) (bL jr _) cc
      have ks:=aC (j:=1) fQ (.slice a7 (im.length+1) c7)
      have eW:Hid (CV W lo b F0 ef ⟨pg,im++[d],xm,xe⟩ ⟨(fa,fc),(a7,c7),(ma,mc),(ea,ec),(ra,rc),(ga,gc),cm,ce⟩ pk (aT (al (.ok s) bA)) (w7.setCell ⟨W.heap.size+1,1,none⟩ (.slice a7 (im.length+1) c7))):=by
       refine (aa kL).app (x':=⟨pg,im++[d],xm,xe⟩) (v':=⟨(fa,fc),(a7,c7),(ma,mc),(ea,ec),(ra,rc),(ga,gc),cm,ce⟩) cC.2 (aa kL).s.ms (aa kL).s.es (i:=1) rfl dz cc jc ?_ ?_ ks.2 (aa nz) (aa HL7) rfl
       ·simp only[MV.ss,sY,fm,zK,mj]
        rfl
       ·simp only[MV.CA,zK]
        exact ks.1
      have Co:=(ck fQ).1.2.1
      have Ca:=(ck fQ).2 1
      refine hK _ _ ⟨fun _=>fQ,?_⟩
      clear hK K dz cc jc ks jr kL jk
      simp only[Act.put,zL]
      refine aO 6 (by kernel_rfl) rfl (fun K hK=>?_)
      go_simp
      refine hK _ _ ⟨fun _=>fQ,?_⟩
      clear hK K
      refine aO 7 (by kernel_rfl) rfl (fun K hK=>?_)
      go_simp
      refine hK _ _ ⟨fun q=>absurd rfl q,?_⟩
      clear hK K Co Ca fQ
      refine df (by kernel_rfl) ?_
      clear fD
      go_wp2
      go_roundg (mR (aT (al (.ok s) bA)))
      case measure=>exact aa HM
      case rel=>exact ⟨_,_,_,pk,rfl,rfl,eW⟩
     |false =>
      have zQ:=fD
      clear fD
      go_wp2_with fail
      refine (iw (aa zQ).z 1 (by decide) ib).mono ?_
      rintro e zR ⟨rfl,hb⟩
      have fD:=ab ((aa zQ).kept (G':=gC) eQ (aM hb (some b)) ((aa zQ).z.up hb) (aa zQ).f (aa zQ).l (aa zQ).o)
      clear hb zQ
      obtain ⟨q,hq⟩:∃q,gd R5 1 ib=q:=⟨_,rfl⟩
      rw[hq]
      have XS:=ab hq
      clear hq
      cases q with
      |true =>
       obtain ⟨s1,rfl,nG⟩:=fE (aa XS)
       obtain rfl:=aa CG s1 rfl
       have XT:Hid (¬aH s1.here 4 ⟨#[59]⟩=true):=by show ¬_;rw[show aH s1.here 4 ⟨#[59]⟩=false from aa G1];decide
       have CQ:=ab nG
       clear nG
       obtain ⟨s,Kw⟩:∃s,s=s1:=⟨_,rfl⟩
       subst Kw
       have RI:∀w,Zr lo w b (.ok s)→Calls Tryz.prog 40 #[.pointer (some ⟨b,0,none⟩),.int .i64 0] w (Wi lo b w (bk 16384 s)):=fun w hz=>by
        have h1:=((aa fD).o s rfl).2.1
        have h2:=Fh 16384 w lo b s (aa zV).len hz (aa CQ) (by omega)
        rw[h1] at h2
        exact h2
       have HMS:=ab RI
       clear RI
       go_upto_region 17 with fail
       have hT:zR.drew.heap[W.heap.size+1]?=some (.cells #[.string pg,.slice oa im.length oc,.slice ma xm.length mc,.slice ea xe.length ec] 27 (0,0)):=(aa fD).m
       refine wp_region_any (by kernel_rfl) (dL (z:=7) (T:=fun w=>w.heap[W.heap.size+1]?=some (.cells #[.string pg,.slice oa im.length oc,.slice ma xm.length mc,.slice ea xe.length ec] 27 (0,0))) _ _ _ _ ?_)
       try (change dT _ _ _ _ _ _ _ _ _ (World.drew _))
       refine wpAnyZ_tk 0 (.pointer (some ⟨W.heap.size+1,2,none⟩)) 71 rfl rfl (Or.inl ⟨by rfl,fun w hw=>by go_simp⟩) hT ?_
       simp only[Act.put,zL,zM,zN]
       refine wpAnyZ_tk 1 (.slice ma xm.length mc) 72 rfl rfl (Or.inl ⟨by rfl,fun w hw=>by have c:=(ck hw).1.2.2.1;go_simp⟩) hT ?_
       simp only[Act.put,zL,zM,zN]
       refine wpAnyZ_tk 2 (.pointer (some ⟨b,0,none⟩)) 73 rfl rfl (Or.inl ⟨by rfl,fun w hw=>by go_simp⟩) hT ?_
       simp only[Act.put,zL,zM,zN]
       refine aO 3 (by kernel_rfl) rfl (fun K hK=>?_)
       refine eJ 74 rfl rfl 40 (tO _) #[.tmp 73,.const (.int .i64 0)] #[55,3] rfl #[.pointer (some ⟨b,0,none⟩),.int .i64 0] (by first|rfl|simp[Act.eval]) (aa HMS _ (show Zr lo zR.drew b (.ok s) from (aa fD).z.drew)) ?_
       rintro o6 w6 ⟨hg,hz,⟨qn,qf,qo,qm,qe,qr,qg⟩,⟨⟨b1,d1⟩,⟨b2,d2⟩,⟨b3,d3⟩,⟨b4,d4⟩,⟨b5,d5⟩,⟨b6,d6⟩,qcm,qce⟩,rfl,hS,hv⟩
       have cO:zR.grownBy w6 (some b):=⟨hg.os,hg.tape,hg.output,hg.size,hg.block⟩
       have Ok:=hS.sl.alloc (.cells #[.string qn,.slice b1 qf.length d1,.slice b2 qo.length d2,.slice b3 qm.length d3,.slice b4 qe.length d4,.slice b5 qr.length d5,.slice b6 qg.length d6] 49)
       have LA:W.heap.size≤zR.heap.size:=(aa fD).g.size
       have Wy:Hid (eU (Nq W.heap.size [W.heap.size+1,W.heap.size] (MV.ss ⟨(fa,fc),(oa,oc),(ma,mc),(ea,ec),(ra,rc),(ga,gc),cm,ce⟩ (fm ⟨pg,im,xm,xe⟩))) (w6.alloc (.cells #[.string qn,.slice b1 qf.length d1,.slice b2 qo.length d2,.slice b3 qm.length d3,.slice b4 qe.length d4,.slice b5 qr.length d5,.slice b6 qg.length d6] 49)) [.string qn,.slice b1 qf.length d1,.slice b2 qo.length d2,.slice b3 qm.length d3,.slice b4 qe.length d4,.slice b5 qr.length d5,.slice b6 qg.length d6] [(Ms.mk qn qf qo qm qe qr qg)]):=by
        have nq:∀k,zR.heap.size≤k→k<w6.heap.size→Nq W.heap.size [W.heap.size+1,W.heap.size] (MV.ss ⟨(fa,fc),(oa,oc),(ma,mc),(ea,ec),(ra,rc),(ga,gc),cm,ce⟩ (fm ⟨pg,im,xm,xe⟩)) k:=fun k h1 h2=>(yx (aa fD).s LA h1 h2).less (fun k hk=>zF _ hk)
        have goes:∀P:Nat→Prop,(∀k,P k→zR.heap.size≤k)→wW P (Nq W.heap.size [W.heap.size+1,W.heap.size] (MV.ss ⟨(fa,fc),(oa,oc),(ma,mc),(ea,ec),(ra,rc),(ga,gc),cm,ce⟩ (fm ⟨pg,im,xm,xe⟩))) w6 (w6.alloc (.cells #[.string qn,.slice b1 qf.length d1,.slice b2 qo.length d2,.slice b3 qm.length d3,.slice b4 qe.length d4,.slice b5 qr.length d5,.slice b6 qg.length d6] 49)):=fun P hP k hp hk=>⟨nq k (hP k hp) hk,Below.heap_alloc _ _ _ hk⟩
        have q:∀(i:Nat) (sl:Slot),(MV.ss ⟨(b1,d1),(b2,d2),(b3,d3),(b4,d4),(b5,d5),(b6,d6),qcm,qce⟩ ⟨qn,qf,qo,qm,qe,qr,qg⟩)[i]?=some sl→jd (Nq W.heap.size [W.heap.size+1,W.heap.size] (MV.ss ⟨(fa,fc),(oa,oc),(ma,mc),(ea,ec),(ra,rc),(ga,gc),cm,ce⟩ (fm ⟨pg,im,xm,xe⟩))) (w6.alloc (.cells #[.string qn,.slice b1 qf.length d1,.slice b2 qo.length d2,.slice b3 qm.length d3,.slice b4 qe.length d4,.slice b5 qr.length d5,.slice b6 qg.length d6] 49)) sl.t sl.sz sl.v sl.n sl.xs:=fun i sl hi=>⟨MH (Ok.own i sl hi),fun k hk=>nq k ((hS.sl.own i sl hi).lt k hk).1 ((hS.sl.own i sl hi).lt k hk).2⟩
        exact .cons (q 0 _ rfl) (q 1 _ rfl) (q 2 _ rfl) (fb _ _ _ _ _ _ (goes _ (fun k hp=>hp.1)) hS.ms) (q 3 _ rfl) (eP _ _ _ _ _ _ (goes _ (fun k hp=>hp.1)) hS.es) (q 4 _ rfl) (q 5 _ rfl) .nil
       have nz:Hid (F0=al (aT (bk 16384 s)) (ef ⟨pg,im,xm++[(Ms.mk qn qf qo qm qe qr qg)],xe⟩)):=by
        refine (aa fD).f.trans ?_
        exact Ng (x:=⟨pg,im,xm,xe⟩) (d:=(Ms.mk qn qf qo qm qe qr qg)) (aa XT) (fun q=>absurd ((bn.1 q).2.symm.trans (bn.1 (aa CQ)).2) (cb (by decide +kernel))) (fun q=>absurd ((bn.1 q).2.symm.trans (bn.1 (aa CQ)).2) (cb (by decide +kernel))) (aa CQ) hv
       have tS:Hid (∀s',aT (bk 16384 s)=.ok s'→Gt s s'):=fun s' e=>GY e (fun a s1 h=>kV 16384 _ _ _ h)
       have HL7:Hid (pO 1000000000 (bJ (fm ⟨pg,im,xm++[(Ms.mk qn qf qo qm qe qr qg)],xe⟩)) (aT (bk 16384 s))):=(aa fD).l.next (by unfold bJ fm;simp only[zK];show 0+im.length+(xm.length+1)+xe.length+0+0≤_;simp only[List.length_nil];omega) (fun s' e=>dS (aa tS s' e) dN)
       have HL6:Hid (pO 1000000000 (bJ (fm ⟨pg,im,xm,xe⟩)) (aT (bk 16384 s))):=(aa fD).l.next (by omega) (fun s' e=>dS (aa tS s' e) dN)
       have HO6:Hid (∀s',aT (bk 16384 s)=.ok s'→N5 s'∧s'.op=0∧(pg.toList==[])=!pk):=fun s' e=>by
        have h1:=(aa fD).o s rfl
        have h2:=(aa tS s' e).gu
        exact ⟨h1.1.gu h2,h2.op.trans h1.2.1,h1.2.2⟩
       have HM:Hid (mR (aT (bk 16384 s))<gk):=by
        have h1:=aa zz
        show _<gk
        rw[h1]
        cases hr:aT (bk 16384 s) with
        |error y=>show 0<s.ts.length+1;omega
        |ok s'=>have:=dS (aa tS s' hr) dN;show s'.ts.length+1<s.ts.length+1;omega
       have HO1:Hid (xm.length+1≤maxLen):=by have:=(aa fD).l.1;unfold bJ fm at this;simp only at this;show _≤_;unfold maxLen;omega
       have Wx:Hid ((xm.length+1)*160≤140737488355328):=by have:=(aa fD).l.1;unfold bJ fm at this;simp only at this;show _≤_;omega
       clear hS Ok LA
       have jk:Hid (CV W lo b F0 (fun x' s'=>ef ⟨pg,im,xm++[(Ms.mk qn qf qo qm qe qr qg)],xe⟩ s') ⟨pg,im,xm,xe⟩ ⟨(fa,fc),(oa,oc),(ma,mc),(ea,ec),(ra,rc),(ga,gc),cm,ce⟩ pk (aT (bk 16384 s)) w6):=(aa fD).kept eQ cO hz (aa nz) (aa HL6) (aa HO6)
       have jr:w6.heap[W.heap.size+1]?=some (.cells #[.string pg,.slice oa im.length oc,.slice ma xm.length mc,.slice ea xe.length ec] 27 (0,0)):=(aa jk).m
       refine ⟨_,rfl,hK _ _ ⟨fun _=>jr,?_⟩⟩
       clear hK K hg hz hv cO hT
       simp only[Act.put,zL,zM,zN,MV.arr]
       refine aO 4 (by kernel_rfl) rfl (fun K hK=>?_)
       go_simp
       refine hK _ _ ⟨fun _=>bL jr _,?_⟩
       clear hK K
       refine aO 5 (by kernel_rfl) rfl (fun K hK=>?_)
       have Ae:W.heap.size≤w6.heap.size:=(aa jk).g.size
       have kL:=ab ((aa jk).alloc eQ (.cells #[.string qn,.slice b1 qf.length d1,.slice b2 qo.length d2,.slice b3 qm.length d3,.slice b4 qe.length d4,.slice b5 qr.length d5,.slice b6 qg.length d6] 49))
       refine dQ rfl (.tmp 72) (.tmp 75) 24 rfl W.heap.size 49 g0 (.agg #[.string ⟨#[]⟩,.slice none 0 0,.slice none 0 0,.slice none 0 0,.slice none 0 0,.slice none 0 0,.slice none 0 0]) 7 160 Tryz.underlying24 Ge gz0 gz1 gz2 rfl (by decide) (.slice ma xm.length mc) xm.length (cm) (by first|rfl|simp[Act.eval]) ((aa kL).s.sl.own 2 _ rfl) ⟨w6.heap.size,0,none⟩ 1 1 [.string qn,.slice b1 qf.length d1,.slice b2 qo.length d2,.slice b3 qm.length d3,.slice b4 qe.length d4,.slice b5 qr.length d5,.slice b6 qg.length d6] (by first|rfl|simp[Act.eval]) rfl (cN _ _ _) (by simp[Value.oneCell']) (aa HO1) (aa Wx) (by rw[zJ];omega) ?_
       intro v7 w7 dz cc jc
       obtain ⟨a7,c7,rfl⟩:=bY dz
       have fQ:w7.heap[W.heap.size+1]?=some (.cells #[.string pg,.slice oa im.length oc,.slice ma xm.length mc,.slice ea xe.length ec] 27 (0,0)):=(aa kL).s.sl.lz (i:=2) rfl (by simp) (bL jr _) cc
       have ks:=aC (j:=2) fQ (.slice a7 (xm.length+1) c7)
       have eW:Hid (CV W lo b F0 ef ⟨pg,im,xm++[(Ms.mk qn qf qo qm qe qr qg)],xe⟩ ⟨(fa,fc),(oa,oc),(a7,c7),(ea,ec),(ra,rc),(ga,gc),cm++([.string qn,.slice b1 qf.length d1,.slice b2 qo.length d2,.slice b3 qm.length d3,.slice b4 qe.length d4,.slice b5 qr.length d5,.slice b6 qg.length d6]:List Value),ce⟩ pk (aT (bk 16384 s)) (w7.setCell ⟨W.heap.size+1,2,none⟩ (.slice a7 (xm.length+1) c7))):=by
        refine (aa kL).app (x':=⟨pg,im,xm++[(Ms.mk qn qf qo qm qe qr qg)],xe⟩) (v':=⟨(fa,fc),(oa,oc),(a7,c7),(ea,ec),(ra,rc),(ga,gc),cm++([.string qn,.slice b1 qf.length d1,.slice b2 qo.length d2,.slice b3 qm.length d3,.slice b4 qe.length d4,.slice b5 qr.length d5,.slice b6 qg.length d6]:List Value),ce⟩) cC.2 (eU.app (aa kL).s.ms (aa Wy)) (aa kL).s.es (i:=2) rfl dz cc jc ?_ ?_ ks.2 (aa nz) (aa HL7) rfl
        ·simp only[MV.ss,sY,fm,zK]
         rfl
        ·simp only[MV.CA,zK]
         exact ks.1
       have Co:=(ck fQ).1.2.2.1
       have Ca:=(ck fQ).2 2
       refine hK _ _ ⟨fun _=>fQ,?_⟩
       clear hK K dz cc jc ks jr kL jk
       simp only[Act.put,zL]
       refine aO 6 (by kernel_rfl) rfl (fun K hK=>?_)
       go_simp
       refine hK _ _ ⟨fun _=>fQ,?_⟩
       clear hK K
       refine aO 7 (by kernel_rfl) rfl (fun K hK=>?_)
       go_simp
       refine hK _ _ ⟨fun q=>absurd rfl q,?_⟩
       clear hK K Co Ca fQ
       refine df (by kernel_rfl) ?_
       clear fD
       go_wp2
       go_roundg (mR (aT (bk 16384 s)))
       case measure=>exact aa HM
       case rel=>exact ⟨_,_,_,pk,rfl,rfl,eW⟩
      |false =>
       have zQ:=fD
       clear fD
       go_wp2_with fail
       refine (iw (aa zQ).z 1 (by decide) lh).mono ?_
       rintro e zR ⟨rfl,hb⟩
       have fD:=ab ((aa zQ).kept (G':=gC) eQ (aM hb (some b)) ((aa zQ).z.up hb) (aa zQ).f (aa zQ).l (aa zQ).o)
       clear hb zQ
       obtain ⟨q,hq⟩:∃q,gd R5 1 lh=q:=⟨_,rfl⟩
       rw[hq]
       have HQ5:=ab hq
       clear hq
       cases q with
       |true =>
        obtain ⟨s1,rfl,nG⟩:=fE (aa HQ5)
        obtain rfl:=aa CG s1 rfl
        have XT:Hid (¬aH s1.here 4 ⟨#[59]⟩=true):=by show ¬_;rw[show aH s1.here 4 ⟨#[59]⟩=false from aa G1];decide
        have CQ:=ab nG
        clear nG
        obtain ⟨s,Kw⟩:∃s,s=s1:=⟨_,rfl⟩
        subst Kw
        go_upto_region 19 with fail
        have hT:zR.drew.heap[W.heap.size+1]?=some (.cells #[.string pg,.slice oa im.length oc,.slice ma xm.length mc,.slice ea xe.length ec] 27 (0,0)):=(aa fD).m
        refine wp_region_any (by kernel_rfl) (dL (z:=7) (T:=fun w=>w.heap[W.heap.size+1]?=some (.cells #[.string pg,.slice oa im.length oc,.slice ma xm.length mc,.slice ea xe.length ec] 27 (0,0))) _ _ _ _ ?_)
        try (change dT _ _ _ _ _ _ _ _ _ (World.drew _))
        refine wpAnyZ_tk 0 (.pointer (some ⟨W.heap.size+1,3,none⟩)) 81 rfl rfl (Or.inl ⟨by rfl,fun w hw=>by go_simp⟩) hT ?_
        simp only[Act.put,zL,zM,zN]
        refine wpAnyZ_tk 1 (.slice ea xe.length ec) 82 rfl rfl (Or.inl ⟨by rfl,fun w hw=>by have c:=(ck hw).1.2.2.2;go_simp⟩) hT ?_
        simp only[Act.put,zL,zM,zN]
        refine wpAnyZ_tk 2 (.pointer (some ⟨b,0,none⟩)) 83 rfl rfl (Or.inl ⟨by rfl,fun w hw=>by go_simp⟩) hT ?_
        simp only[Act.put,zL,zM,zN]
        refine aO 3 (by kernel_rfl) rfl (fun K hK=>?_)
        refine eJ 84 rfl rfl 41 (Ex _) #[.tmp 83] #[55] rfl #[.pointer (some ⟨b,0,none⟩)] (by first|rfl|simp[Act.eval]) (G6 (R:=.ok s) (show Zr lo zR.drew b (.ok s) from (aa fD).z.drew) (fun s' e=>by cases e;exact aa CQ)) ?_
        rintro o6 w6 ⟨hg,hz,en,a1,c1,a2,c2,a3,c3,rfl,hS,hv⟩
        have cO:zR.grownBy w6 (some b):=⟨hg.os,hg.tape,hg.output,hg.size,hg.block⟩
        have Ok:=hS.alloc (.cells #[.string en.name,.slice a1 en.bT.length c1,.slice a2 en.res.length c2,.slice a3 en.gone.length c3] 71)
        have LA:W.heap.size≤zR.heap.size:=(aa fD).g.size
        have Wy:Hid (fH (Nq W.heap.size [W.heap.size+1,W.heap.size] (MV.ss ⟨(fa,fc),(oa,oc),(ma,mc),(ea,ec),(ra,rc),(ga,gc),cm,ce⟩ (fm ⟨pg,im,xm,xe⟩))) (w6.alloc (.cells #[.string en.name,.slice a1 en.bT.length c1,.slice a2 en.res.length c2,.slice a3 en.gone.length c3] 71)) [.string en.name,.slice a1 en.bT.length c1,.slice a2 en.res.length c2,.slice a3 en.gone.length c3] [en]):=by
         have nq:∀k,zR.heap.size≤k→k<w6.heap.size→Nq W.heap.size [W.heap.size+1,W.heap.size] (MV.ss ⟨(fa,fc),(oa,oc),(ma,mc),(ea,ec),(ra,rc),(ga,gc),cm,ce⟩ (fm ⟨pg,im,xm,xe⟩)) k:=fun k h1 h2=>(yx (aa fD).s LA h1 h2).less (fun k hk=>zF _ hk)
         have q:∀(i:Nat) (sl:Slot),(ES en (.slice a1 en.bT.length c1) (.slice a2 en.res.length c2) (.slice a3 en.gone.length c3))[i]?=some sl→jd (Nq W.heap.size [W.heap.size+1,W.heap.size] (MV.ss ⟨(fa,fc),(oa,oc),(ma,mc),(ea,ec),(ra,rc),(ga,gc),cm,ce⟩ (fm ⟨pg,im,xm,xe⟩))) (w6.alloc (.cells #[.string en.name,.slice a1 en.bT.length c1,.slice a2 en.res.length c2,.slice a3 en.gone.length c3] 71)) sl.t sl.sz sl.v sl.n sl.xs:=fun i sl hi=>⟨MH (Ok.own i sl hi),fun k hk=>nq k ((hS.own i sl hi).lt k hk).1 ((hS.own i sl hi).lt k hk).2⟩
         exact .cons (q 0 _ rfl) (q 1 _ rfl) (q 2 _ rfl) .nil
        have nz:Hid (F0=al (aT (al (.ok s) dd)) (ef ⟨pg,im,xm,xe++[en]⟩)):=by
         refine (aa fD).f.trans ?_
         exact Rb (x:=⟨pg,im,xm,xe⟩) (aa XT) (fun q=>absurd ((bn.1 q).2.symm.trans (bn.1 (aa CQ)).2) (cb (by decide +kernel))) (fun q=>absurd ((bn.1 q).2.symm.trans (bn.1 (aa CQ)).2) (cb (by decide +kernel))) (fun q=>absurd ((bn.1 q).2.symm.trans (bn.1 (aa CQ)).2) (cb (by decide +kernel))) (aa CQ) hv
        have tS:Hid (∀s',aT (al (.ok s) dd)=.ok s'→Gt s s'):=fun s' e=>GY e (fun a s1 h=>ru h)
        have HL7:Hid (pO 1000000000 (bJ (fm ⟨pg,im,xm,xe++[en]⟩)) (aT (al (.ok s) dd))):=(aa fD).l.next (by unfold bJ fm;simp only[zK];show 0+im.length+xm.length+(xe.length+1)+0+0≤_;simp only[List.length_nil];omega) (fun s' e=>dS (aa tS s' e) dN)
        have HL6:Hid (pO 1000000000 (bJ (fm ⟨pg,im,xm,xe⟩)) (aT (al (.ok s) dd))):=(aa fD).l.next (by omega) (fun s' e=>dS (aa tS s' e) dN)
        have HO6:Hid (∀s',aT (al (.ok s) dd)=.ok s'→N5 s'∧s'.op=0∧(pg.toList==[])=!pk):=fun s' e=>by
         have h1:=(aa fD).o s rfl
         have h2:=(aa tS s' e).gu
         exact ⟨h1.1.gu h2,h2.op.trans h1.2.1,h1.2.2⟩
        have HM:Hid (mR (aT (al (.ok s) dd))<gk):=by
         have h1:=aa zz
         show _<gk
         rw[h1]
         cases hr:aT (al (.ok s) dd) with
         |error y=>show 0<s.ts.length+1;omega
         |ok s'=>have:=dS (aa tS s' hr) dN;show s'.ts.length+1<s.ts.length+1;omega
        have HO1:Hid (xe.length+1≤maxLen):=by have:=(aa fD).l.1;unfold bJ fm at this;simp only at this;show _≤_;unfold maxLen;omega
        have Wx:Hid ((xe.length+1)*88≤140737488355328):=by have:=(aa fD).l.1;unfold bJ fm at this;simp only at this;show _≤_;omega
        clear hS Ok LA
        have jk:Hid (CV W lo b F0 (fun x' s'=>ef ⟨pg,im,xm,xe++[en]⟩ s') ⟨pg,im,xm,xe⟩ ⟨(fa,fc),(oa,oc),(ma,mc),(ea,ec),(ra,rc),(ga,gc),cm,ce⟩ pk (aT (al (.ok s) dd)) w6):=(aa fD).kept eQ cO hz (aa nz) (aa HL6) (aa HO6)
        have jr:w6.heap[W.heap.size+1]?=some (.cells #[.string pg,.slice oa im.length oc,.slice ma xm.length mc,.slice ea xe.length ec] 27 (0,0)):=(aa jk).m
        refine ⟨_,rfl,hK _ _ ⟨fun _=>jr,?_⟩⟩
        clear hK K hg hz hv cO hT
        simp only[Act.put,zL,zM,zN]
        refine aO 4 (by kernel_rfl) rfl (fun K hK=>?_)
        go_simp
        refine hK _ _ ⟨fun _=>bL jr _,?_⟩
        clear hK K
        refine aO 5 (by kernel_rfl) rfl (fun K hK=>?_)
        have Ae:W.heap.size≤w6.heap.size:=(aa jk).g.size
        have kL:=ab ((aa jk).alloc eQ (.cells #[.string en.name,.slice a1 en.bT.length c1,.slice a2 en.res.length c2,.slice a3 en.gone.length c3] 71))
        refine dQ rfl (.tmp 82) (.tmp 85) 25 rfl W.heap.size 71 d0 (.agg #[.string ⟨#[]⟩,.slice none 0 0,.slice none 0 0,.slice none 0 0]) 4 88 Tryz.underlying25 Af dz0 dz1 dz2 rfl (by decide) (.slice ea xe.length ec) xe.length (ce) (by first|rfl|simp[Act.eval]) ((aa kL).s.sl.own 3 _ rfl) ⟨w6.heap.size,0,none⟩ 1 1 [.string en.name,.slice a1 en.bT.length c1,.slice a2 en.res.length c2,.slice a3 en.gone.length c3] (by first|rfl|simp[Act.eval]) rfl (cN _ _ _) (by simp[Value.oneCell']) (aa HO1) (aa Wx) (by rw[zJ];omega) ?_
        intro v7 w7 dz cc jc
        obtain ⟨a7,c7,rfl⟩:=bY dz
        have fQ:w7.heap[W.heap.size+1]?=some (.cells #[.string pg,.slice oa im.length oc,.slice ma xm.length mc,.slice ea xe.length ec] 27 (0,0)):=(aa kL).s.sl.lz (i:=3) rfl (by simp) (bL jr _) cc
        have ks:=aC (j:=3) fQ (.slice a7 (xe.length+1) c7)
        have eW:Hid (CV W lo b F0 ef ⟨pg,im,xm,xe++[en]⟩ ⟨(fa,fc),(oa,oc),(ma,mc),(a7,c7),(ra,rc),(ga,gc),cm,ce++([.string en.name,.slice a1 en.bT.length c1,.slice a2 en.res.length c2,.slice a3 en.gone.length c3]:List Value)⟩ pk (aT (al (.ok s) dd)) (w7.setCell ⟨W.heap.size+1,3,none⟩ (.slice a7 (xe.length+1) c7))):=by
         refine (aa kL).app (x':=⟨pg,im,xm,xe++[en]⟩) (v':=⟨(fa,fc),(oa,oc),(ma,mc),(a7,c7),(ra,rc),(ga,gc),cm,ce++([.string en.name,.slice a1 en.bT.length c1,.slice a2 en.res.length c2,.slice a3 en.gone.length c3]:List Value)⟩) cC.2 (aa kL).s.ms (fH.app (aa kL).s.es (aa Wy)) (i:=3) rfl dz cc jc ?_ ?_ ks.2 (aa nz) (aa HL7) rfl
         ·simp only[MV.ss,sY,fm,zK]
          rfl
         ·simp only[MV.CA,zK]
          exact ks.1
        have Co:=(ck fQ).1.2.2.2
        have Ca:=(ck fQ).2 3
        refine hK _ _ ⟨fun _=>fQ,?_⟩
        clear hK K dz cc jc ks jr kL jk
        simp only[Act.put,zL]
        refine aO 6 (by kernel_rfl) rfl (fun K hK=>?_)
        go_simp
        refine hK _ _ ⟨fun _=>fQ,?_⟩
        clear hK K
        refine aO 7 (by kernel_rfl) rfl (fun K hK=>?_)
        go_simp
        refine hK _ _ ⟨fun q=>absurd rfl q,?_⟩
        clear hK K Co Ca fQ
        refine df (by kernel_rfl) ?_
        clear fD
        go_wp2
        go_roundg (mR (aT (al (.ok s) dd)))
        case measure=>exact aa HM
        case rel=>exact ⟨_,_,_,pk,rfl,rfl,eW⟩
       |false =>
        have hfw:F0=al (kN R5) (ef ⟨pg,im,xm,xe⟩):=by
         rw[←FU (aa G1) (fun h1=>by
          have h:=aa wT
          rw[h1] at h
          have h2:pk=true:=by cases pk with|true=>rfl|false=>cases h
          match R5,h1,aa CG,(aa fD).o with
          |.ok s1,_,fP,ho=>rw[h2] at ho;exact (ho s1 rfl).2.2) (aa HQ3) (aa XS) (aa HQ5)]
         exact (aa fD).f
        have HFW:=ab hfw
        have hnk:∀s',kN R5≠.ok s':=fun s' e=>by cases R5<;>cases e
        have HNK:=ab hnk
        clear hfw hnk
        go_wp2_with fail
        refine (kM (aa fD).z).mono ?_
        rintro e C' ⟨rfl,hg,hz⟩
        have lM:=ab ((aa fD).kept (G':=ef) eQ hg hz (aa HFW) ⟨(aa fD).l.1,fun s' e=>absurd e (aa HNK s')⟩ (fun s' e=>absurd e (aa HNK s')))
        have HM:Hid (mR (kN R5)<gk):=by
         have h1:=aa zz
         show _<gk
         rw[h1]
         cases hr:kN R5 with
         |error y=>show 0<s.ts.length+1;omega
         |ok s'=>exact absurd hr (aa HNK s')
        clear hg hz fD HFW
        go_wp2
        go_roundg (mR (kN R5))
        case measure=>exact aa HM
        case rel=>exact ⟨_,_,_,pk,rfl,rfl,lM⟩
  |false =>
   obtain ⟨he,hva⟩:=VR (aa jY).z.2 (aa jw) (aa jY).f
   have jg:Zr lo zY b (aT F0):=by rw[he];exact (aa jY).z
   have HVA:=ab hva
   clear he hva
   have CL:zY.heap[W.heap.size+1]?=some (.cells #[.string pg,.slice oa im.length oc,.slice ma xm.length mc,.slice ea xe.length ec] 27 (0,0)):=(aa jY).m
   have AW:zY.heap[W.heap.size]?=some (.cells #[.string ⟨#[]⟩,.slice none 0 0,.slice none 0 0,.slice none 0 0] 27 (0,0)):=(aa jY).r
   obtain ⟨⟨TN,XF,TM,XE⟩,RQ⟩:=ck CL
   obtain ⟨⟨xE,xD,xC,cr3⟩,du⟩:=ck AW
   have um:=du 0
   have uk:=du 1
   have uj:=du 2
   have fr3:=du 3
   obtain ⟨t1,t2⟩:=FJ AW (.string pg) (.slice oa im.length oc) (.slice ma xm.length mc) (.slice ea xe.length ec)
   have T1:=ab t1
   have T2:=ab (cy (aa jY).g t2 (zD _))
   have T3:=ab (jg.gA t2 cC.2)
   have T4:=ab (((aa jY).s.kept t2 (.inr (by simp))).less (L':=[]) (by simp))
   clear t1 t2 RQ du CL AW jg jY jw
   go_wp2
   refine bodyPost_ret (results_cell_row rfl _ _ W.heap.size 27 #[.string pg,.slice oa im.length oc,.slice ma xm.length mc,.slice ea xe.length ec] (0,0) _ rfl (aa T1) Tryz.underlying27 rfl yd) rfl ?_
   rw[←aa Fe]
   exact ⟨aa T2,aa T3,⟨pg,im,xm,xe⟩,⟨(fa,fc),(oa,oc),(ma,mc),(ea,ec),(ra,rc),(ga,gc),cm,ce⟩,rfl,aa T4,aa HVA⟩
end Go.Proofs.YtjophoclfccmcaaGreatDoor

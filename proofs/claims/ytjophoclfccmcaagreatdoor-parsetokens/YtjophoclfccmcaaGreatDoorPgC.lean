import Derived.Test.YtjophoclfccmcaaGreatDoorM47
set_option maxHeartbeats 8000000
set_option maxRecDepth 100000
namespace Go.Proofs.YtjophoclfccmcaaGreatDoor
open Go.RowKit
attribute [local go_sem ↓] Go.wp_at_zero Go.wp_at_succ
theorem Cm (w:World) (vs:Array Value):(callFunc 39 vs).run Tryz.prog w=.ok (.enter 39 vs) w:=by
 have hn:¬Tryz.f39.name = "runtime.NumGoroutine" := by decide +kernel
 have hb:Tryz.f39.body.isSome=true:=by kernel_rfl
 obtain ⟨c,hc⟩:=zG hb
 simp[callFunc,Tryz.func39,hn,hc]
def fm (x:Fl):Mp:=⟨x.iT,[],x.fO,x.ms,x.es,[],[]⟩
def MV.Cv (v:MV) (x:Fl):Array Value:=#[.string x.iT,.slice v.o.1 x.fO.length v.o.2,.slice v.m.1 x.ms.length v.m.2,.slice v.e.1 x.es.length v.e.2]
def E4:Array Value:=#[.string ⟨#[]⟩,.slice none 0 0,.slice none 0 0,.slice none 0 0]
structure CM (W:World) (lo b:Nat) (F0:Except (Int×Int) (Fl×ay)) (G:Fl→ay→Except (Int×Int) (Fl×ay)) (x:Fl) (v:MV) (pk:Bool) (R:PX) (w:World):Prop where
 g:W.grownBy w (some b)
 z:Zr lo w b R
 r:w.heap[W.heap.size]?=some (.cells E4 27 (0,0))
 m:w.heap[W.heap.size+1]?=some (.cells (v.Cv x) 27 (0,0))
 s:nL W.heap.size [W.heap.size+1,W.heap.size] w (fm x) v
 f:F0=al R (G x)
 l:pU 1000000000 (bH (fm x)) R
 o:∀s,R=.ok s→N5 s∧s.op=0∧(x.iT.toList==[])=!pk
theorem CM.kept {W w w':World}{lo b:Nat}{F0:Except (Int×Int) (Fl×ay)}{G G':Fl→ay→Except (Int×Int) (Fl×ay)}{x:Fl}{v:MV}{pk:Bool}{R R':PX} (h:CM W lo b F0 G x v pk R w) (hb:b<W.heap.size) (hg:w.grownBy w' (some b)) (hz:Zr lo w' b R') (hf:F0=al R' (G' x)) (hl:pU 1000000000 (bH (fm x)) R') (ho:∀s,R'=.ok s→N5 s∧s.op=0∧(x.iT.toList==[])=!pk):CM W lo b F0 G' x v pk R' w' :=
 ⟨h.g.trans hg,hz,ax hg h.r (by omega),ax hg h.m (by omega),h.s.kept hg (.inl hb),hf,hl,ho⟩
theorem CM.app {W w w1:World}{lo b i j n':Nat}{F0:Except (Int×Int) (Fl×ay)}{G G':Fl→ay→Except (Int×Int) (Fl×ay)}{x x':Fl}{v v':MV}{pk:Bool}{R:PX}{sl:Slot}{u:Value}{sj:List Value} (h:CM W lo b F0 G x v pk R w) (ji:lo≤W.heap.size) (yK:eT (Nq W.heap.size [W.heap.size+1,W.heap.size] (v.ss (fm x))) w v'.cm x'.ms) (AU:fE (Nq W.heap.size [W.heap.size+1,W.heap.size] (v.ss (fm x))) w v'.ce x'.es) (hi:(v.ss (fm x))[i]?=some sl) (ho:w1.ownsRow W.heap.size sl.t sl.sz u n' sj) (hg:w.grownBy w1 sl.v.ownBlock) (fg:u.ownBlock=sl.v.ownBlock∨u.ownBlock=some w.heap.size) (he:v'.ss (fm x')=(v.ss (fm x)).set i ⟨sl.t,sl.sz,u,n',sj⟩) (ha:(w1.setCell ⟨W.heap.size+1,j,none⟩ u).heap[W.heap.size+1]?=some (.cells (v'.Cv x') 27 (0,0))) (hs:w1.grownBy (w1.setCell ⟨W.heap.size+1,j,none⟩ u) (some (W.heap.size+1))) (hf:F0=al R (G' x')) (hl:pU 1000000000 (bH (fm x')) R) (Tx:x'.iT=x.iT):CM W lo b F0 G' x' v' pk R (w1.setCell ⟨W.heap.size+1,j,none⟩ u) :=
 ⟨cx (h.s.sl.gu hi h.g (zD _) hg) hs (by omega),(h.s.sl.zr hi ji h.z hg).gu hs (by omega),ax hs (h.s.sl.lA hi (by simp) h.r hg) (by omega),ha,(h.s.PO (x':=fm x') yK AU hi ho hg fg he).kept hs (.inr (by simp)),hf,hl,fun s e=>by rw[Tx];exact h.o s e⟩
theorem CM.alloc {W w:World}{lo b:Nat}{F0:Except (Int×Int) (Fl×ay)}{G:Fl→ay→Except (Int×Int) (Fl×ay)}{x:Fl}{v:MV}{pk:Bool}{R:PX} (h:CM W lo b F0 G x v pk R w) (hb:b<W.heap.size) (ob:Obj):CM W lo b F0 G x v pk R (w.alloc ob):=h.kept hb (aO ((zE _ _).alloc (zD _) ob) (some b)) (h.z.up ((zE _ _).alloc (zD _) ob)) h.f h.l h.o
theorem Nq.less {l k:Nat}{L L':List Nat}{ss:List Slot} (h:Nq l L ss k) (hl:∀k ∈ L',k ∈ L):Nq l L' ss k:=⟨h.1,fun hm=>h.2.1 (hl k hm),h.2.2⟩
def FlQ (lo b:Nat) (W:World) (r:Except (Int×Int) (Fl×ay)) (e:Ending) (w:World):Prop:=W.grownBy w (some b)∧Zr lo w b (aT r)∧∃(x:Fl) (v:MV),e=.returned (.agg (v.Cv x))∧nL W.heap.size [] w (fm x) v∧∀a s,r=.ok (a,s)→a=x
def YV:PX→Nat
 |.ok s=>s.ts.length
 |.error _=>0
theorem V8 {x:Fl}{R:PX}{F0:Except (Int×Int) (Fl×ay)} (hg:lq R) (hq:(M3 R&&decide (0<YV R))=false) (hf:F0=al R (dX x)):aT F0=R∧∀a s,F0=.ok (a,s)→a=x:=by
 subst hf
 match R,hg,hq with
 |.error y,_,_=>exact ⟨rfl,fun _ _ e=>(by cases e)⟩
 |.ok s,hg,hq =>
  have h0:¬0<s.ts.length:=by
   have h1:(true&&decide (0<s.ts.length))=false:=hq
   intro h2
   rw[decide_eq_true h2] at h1
   cases h1
  show aT (dX x s)=_∧∀a s',dX x s=.ok (a,s')→_
  rw[V9 hg h0]
  exact ⟨rfl,fun a s' e=>by cases e;rfl⟩
theorem FB {w:World}{g:Nat}{b0 b1 b2 b3:Value}{T:TypeId} (hr:w.heap[g]?=some (.cells #[b0,b1,b2,b3] T (0,0))) (a0 a1 a2 a3:Value):((((w.setCell ⟨g,0,none⟩ a0).setCell ⟨g,1,none⟩ a1).setCell ⟨g,2,none⟩ a2).setCell ⟨g,3,none⟩ a3).heap[g]?=some (.cells #[a0,a1,a2,a3] T (0,0))∧w.grownBy ((((w.setCell ⟨g,0,none⟩ a0).setCell ⟨g,1,none⟩ a1).setCell ⟨g,2,none⟩ a2).setCell ⟨g,3,none⟩ a3) (some g):=by
 obtain ⟨h0,g0⟩:=aC (j:=0) hr a0
 obtain ⟨h1,g1⟩:=aC (j:=1) h0 a1
 obtain ⟨h2,g2⟩:=aC (j:=2) h1 a2
 obtain ⟨h3,g3⟩:=aC (j:=3) h2 a3
 exact ⟨h3,((g0.trans g1).trans g2).trans g3⟩
theorem Q9 {s s':ay} (h:aT (al (aT (al (kK (.ok s)) (fun s=>ba false (ll false s)))) (au ⟨#[59]⟩))=.ok s'):jk s.nx s'∧∀p,(∀a s1,al (kK (.ok s)) (fun s=>ba false (ll false s))=.ok (a,s1)→Value.string p=.string a)→(p.toList==[])=false:=by
 rw[show al (kK (.ok s)) (fun s=>ba false (ll false s))=ba false s.nx from rfl] at h ⊢
 cases h1:ba false s.nx with
 |error y=>rw[h1] at h;cases h
 |ok q =>
  obtain ⟨a,s1⟩:=q
  rw[h1,show al (aT (.ok (a,s1))) (au ⟨#[59]⟩)=au ⟨#[59]⟩ s1 from rfl] at h
  cases h2:au ⟨#[59]⟩ s1 with
  |error y=>rw[h2] at h;cases h
  |ok r =>
   rw[h2] at h
   obtain rfl:r.2=s':=by simpa[aT] using h
   refine ⟨(ft h1).trans (bw h2),fun p hp=>?_⟩
   obtain rfl:p=a:=by simpa using hp a s1 rfl
   exact Gs h1
theorem GU {α:Type}{s s':ay}{r:Except (Int×Int) (α×ay)} (h:aT r=.ok s') (hg:∀a s1,r=.ok (a,s1)→Gt s s1):Gt s s':=by
 cases r with
 |error y=>cases h
 |ok q =>
  obtain ⟨a,s1⟩:=q
  obtain rfl:s1=s':=by simpa[aT] using h
  exact hg a s1 rfl
theorem QD {W:World}{lo b:Nat}{s0:ay} (h:Zr lo W b (.ok s0)) (h5:N5 s0) (ho:s0.op=0):Calls Tryz.prog 21 #[.pointer (some ⟨b,0,none⟩)] W (FlQ lo b W (iB s0)):=by
 obtain ⟨i0,hi,zy,zx,jK⟩:=info_parts ry
 obtain ⟨d0,Ae,dz0,dz1,dz2⟩:=info_parts NS
 obtain ⟨g0,F9,gz0,gz1,gz2⟩:=info_parts NQ
 have cB:=h.low
 have mO:b<W.heap.size:=by omega
 have bQ:=(zE W.heap.size W).alloc (zD _) (.cells #[.string ⟨#[]⟩,.slice none 0 0,.slice none 0 0,.slice none 0 0] 27)
 have br:=bQ.alloc bQ.size (.cells #[.string ⟨#[]⟩,.slice none 0 0,.slice none 0 0,.slice none 0 0] 27)
 have HZ:=ab (h.up br)
 have HG:=ab (aO br (some b))
 have l9:Hid (Gd s0):=h.2
 have HN:=ab h5
 have HOP:=ab ho
 have Kv:((W.alloc (.cells #[.string ⟨#[]⟩,.slice none 0 0,.slice none 0 0,.slice none 0 0] 27)).alloc (.cells #[.string ⟨#[]⟩,.slice none 0 0,.slice none 0 0,.slice none 0 0] 27)).heap[W.heap.size]?=some (.cells #[.string ⟨#[]⟩,.slice none 0 0,.slice none 0 0,.slice none 0 0] 27 (0,0)):=bL (aH _ _) _
 have hqf:=aH (W.alloc (.cells #[.string ⟨#[]⟩,.slice none 0 0,.slice none 0 0,.slice none 0 0] 27)) (.cells #[.string ⟨#[]⟩,.slice none 0 0,.slice none 0 0,.slice none 0 0] 27)
 rw[zJ] at hqf
 have aV:=ab Kv
 have HQf:=ab hqf
 clear h h5 ho bQ br Kv hqf
 go_enter Tryz.func21,Tryz.ntmps21
 go_wp2_with fail
 refine (Ju (aa HZ)).mono ?_
 rintro e w1 ⟨hg,hz,v0,rfl,mD,-⟩
 obtain rfl:=mD
 rw[show al (.ok s0) Bk=Bk s0 from rfl] at hz
 have W6:=ab (Ss (aa l9) hz.2)
 have HSY:=ab (fun s'=>QS (s:=s0) (s':=s'))
 obtain ⟨F0,sP⟩:∃F0,F0=iB s0:=⟨_,rfl⟩
 obtain ⟨R4,IJ⟩:∃R4,R4=aT (Bk s0):=⟨_,rfl⟩
 rw[←sP,←IJ] at W6
 rw[←IJ] at hz HSY
 have E5:=ab sP
 have Qj:nL W.heap.size [W.heap.size+1,W.heap.size] w1 (fm ⟨⟨#[]⟩,[],[],[]⟩) ⟨(none,0),(none,0),(none,0),(none,0),(none,0),(none,0),[],[]⟩:=by
  refine ⟨⟨fun i sl hs=>?_,fun i j a c hij ha hc k hk=>?_,fun i sl k hs hk=>?_,fun k hk=>?_⟩,.nil,.nil⟩
  ·match i,hs with
   |0,hs=>cases hs;exact World.ownsRow_nil _ _ _ _
   |1,hs=>cases hs;exact World.ownsRow_nil _ _ _ _
   |2,hs=>cases hs;exact World.ownsRow_nil _ _ _ _
   |3,hs=>cases hs;exact World.ownsRow_nil _ _ _ _
   |4,hs=>cases hs;exact World.ownsRow_nil _ _ _ _
   |5,hs=>cases hs;exact World.ownsRow_nil _ _ _ _
   |i+6,hs=>cases hs
  ·match i,ha with
   |0,ha=>cases ha;cases hk
   |1,ha=>cases ha;cases hk
   |2,ha=>cases ha;cases hk
   |3,ha=>cases ha;cases hk
   |4,ha=>cases ha;cases hk
   |5,ha=>cases ha;cases hk
   |i+6,ha=>cases ha
  ·match i,hs with
   |0,hs=>cases hs;cases hk
   |1,hs=>cases hs;cases hk
   |2,hs=>cases hs;cases hk
   |3,hs=>cases hs;cases hk
   |4,hs=>cases hs;cases hk
   |5,hs=>cases hs;cases hk
   |i+6,hs=>cases hs
  ·have e2:=Nat.lt_of_lt_of_le (ib (aa HQf)) hg.size
   simp only[List.mem_cons,List.not_mem_nil,or_false] at hk
   rcases hk with rfl|rfl
   ·exact e2
   ·omega
 have HE:Hid (CM W lo b F0 dX ⟨⟨#[]⟩,[],[],[]⟩ ⟨(none,0),(none,0),(none,0),(none,0),(none,0),(none,0),[],[]⟩ false R4 w1):=⟨(aa HG).trans hg,hz,ax hg (aa aV) (by omega),ax hg (aa HQf) (by omega),Qj,aa W6,⟨by unfold bH fm;simp,fun s e=>by have:=hz.2;rw[e] at this;have:=Gd.len this;unfold bH fm;simp;omega⟩,fun s e=>⟨(aa HN).gi (aa HSY s e),((aa HSY s e).op).trans (aa HOP),by show ((⟨#[]⟩:ByteArray).toList==[])=true;rw[ByteArray.toList_eq];rfl⟩⟩
 clear Qj HG HZ aV HQf W6 HSY HN HOP l9 hg hz sP IJ
 go_wp2
 go_loopg [4] (mR R4) (fun gk v4 wr=>∃(x:Fl) (v:MV) (Rk:PX) (pk:Bool),v4=.bool pk∧gk=mR Rk∧Hid (CM W lo b F0 dX x v pk Rk wr))
 case atStart=>exact ⟨_,_,R4,false,rfl,rfl,HE⟩
 case round =>
  clear HE
  obtain ⟨x,v,Rk,pk,rfl,eG,Av⟩:=hrel
  have zu:=ab eG
  clear eG
  go_upto_region 4 with fail
  go_cut [23] from 7 to 87 (fun v23 wx=>v23=.bool (M3 Rk&&decide (0<YV Rk))∧Hid (Below wr.heap.size wr wx))
  case first =>
   have hz:=(aa Av).z.1
   cases Rk with
   |error y =>
    obtain ⟨KA,a9,n9,c9,i9,en9,ct9,Af,Y0⟩:=hz
    obtain ⟨⟨pA,pz,pS,pR,sZ,qE⟩,jA⟩:=bE Af
    have e0:(y.1==0)=false:=beq_eq_false_iff_ne.2 Y0
    clear jA Af pA pz pS pR qE Y0
    go_quiet (fail)
    go_wp2
    go_meet
    exact ⟨rfl,(⟨rfl,rfl,rfl,zD _,fun _ _=>rfl⟩:Below wr.heap.size wr (wr.drewN nq))⟩
   |ok s =>
    obtain ⟨KA,v9,TL,i,Af,ht9,XG,hi9,hL9⟩:=hz
    obtain ⟨a9,c9,rfl,hc9,hm9,KL⟩:=ht9
    obtain ⟨⟨pA,pz,pS,pR,sZ,qE⟩,jA⟩:=bE Af
    have CG:s.ts.length=TL.length-i:=by rw[show s.ts=TL.drop i from XG.symm,List.length_drop]
    by_cases dB:i<TL.length
    ·have HV:Hid ((M3 (.ok s)&&decide (0<YV (.ok s)))=true):=by show (true&&decide (0<s.ts.length))=true;rw[decide_eq_true (by omega)];rfl
     have hq:decide ((i:Int)<(TL.length:Int))=true:=by simp;omega
     clear jA Af pS pR qE KL CG XG
     go_quiet (fail)
     go_wp2
     go_meet
     exact ⟨by rw[aa HV],(⟨rfl,rfl,rfl,zD _,fun _ _=>rfl⟩:Below wr.heap.size wr (wr.drewN nq))⟩
    ·have HV:Hid ((M3 (.ok s)&&decide (0<YV (.ok s)))=false):=by show (true&&decide (0<s.ts.length))=false;rw[decide_eq_false (by omega)];rfl
     have hq:decide ((i:Int)<(TL.length:Int))=false:=by simp;omega
     have lG:decide (i<TL.length)=false:=by simp;omega
     clear jA Af pS pR qE KL CG XG
     go_quiet (fail)
     go_wp2
     go_meet
     exact ⟨by rw[aa HV],(⟨rfl,rfl,rfl,zD _,fun _ _=>rfl⟩:Below wr.heap.size wr (wr.drewN nq))⟩
  case rest =>
  obtain ⟨zW,fP⟩:∃x,x=wc:=⟨_,rfl⟩
  subst fP
  obtain ⟨rfl,hb⟩:=hcut
  have jV:=ab ((aa Av).kept mO (aO (aa hb) (some b)) ((aa Av).z.up (aa hb)) (aa Av).f (aa Av).l (aa Av).o)
  clear hb Av
  obtain ⟨q,hq⟩:∃q,(M3 Rk&&decide (0<YV Rk))=q:=⟨_,rfl⟩
  rw[hq]
  have jx:=ab hq
  clear hq
  obtain ⟨pg,im,xm,xe⟩:=x
  obtain ⟨⟨fa,fc⟩,⟨oa,oc⟩,⟨ma,mc⟩,⟨ea,ec⟩,⟨ra,rc⟩,⟨ga,gc⟩,cm,ce⟩:=v
  cases q with
  |true =>
   obtain ⟨s,rfl,dL⟩:∃s,Rk=.ok s∧0<s.ts.length:=by
    have hq:=aa jx
    match Rk,hq with
    |.error y,hq=>cases hq
    |.ok s,hq=>exact ⟨s,rfl,by have:(true&&decide (0<s.ts.length))=true:=hq;simpa using this⟩
   have zT:Hid (Gd s):=(aa jV).z.2
   have yI:F0=al (aT (al (.ok s) (dj xv))) (gA ⟨pg,im,xm,xe⟩):=by
    rw[←OK (aa zT) ((aa jV).o s rfl).1 dL]
    exact (aa jV).f
   have Qz:=ab yI
   clear yI jx
   have HW:=ab (mY zW xv 9)
   have qL:=(zE zW.heap.size zW).alloc (zD _) (.cells #[.string ⟨#[111,112,116,105,111,110]⟩,.string ⟨#[115,101,114,118,105,99,101]⟩,.string ⟨#[101,120,116,101,110,100]⟩] 9)
   have Jl:=ab ((aa jV).z.up qL)
   have Lt:=ab (aO qL (some b))
   clear qL
   go_wp2_with fail
   refine (gY (aa Jl) (aa HW)).mono ?_
   rintro e LY ⟨hg,hz,v0,rfl,mD,-⟩
   obtain rfl:=mD
   obtain ⟨R5,um⟩:∃R5,R5=aT (al (.ok s) (dj xv)):=⟨_,rfl⟩
   have jL:∀s',R5=.ok s'→s'=s:=by
    intro s' e
    rw[um,show al (.ok s) (dj xv)=dj xv s from rfl] at e
    unfold dj at e
    split at e
    ·cases e
    ·cases e;rfl
   rw[←um] at hz
   have P6:Hid (F0=al R5 (gA ⟨pg,im,xm,xe⟩)):=by rw[um];exact aa Qz
   have CB:=ab jL
   have Jr:=ab ((aa jV).kept (G':=gA) mO ((aa Lt).trans hg) hz (aa P6) ⟨(aa jV).l.1,fun s' e=>by rw[jL s' e];exact (aa jV).l.2 s rfl⟩ (fun s' e=>by rw[jL s' e];exact (aa jV).o s rfl))
   clear jV
   clear hg hz jL um Qz P6 HW Jl Lt
   go_wp2_with fail
   refine (iw (aa Jr).z 4 (by decide) ⟨#[59]⟩).mono ?_
   rintro e w23 ⟨rfl,hb⟩
   have xN:=ab ((aa Jr).kept (G':=gA) mO (aO hb (some b)) ((aa Jr).z.up hb) (aa Jr).f (aa Jr).l (aa Jr).o)
   clear Jr
   clear hb
   obtain ⟨q,hq⟩:∃q,fU R5 4 ⟨#[59]⟩=q:=⟨_,rfl⟩
   rw[hq]
   have GZ:=ab hq
   clear hq
   cases q with
   |true =>
    obtain ⟨s1,rfl,nJ⟩:=fB (aa GZ)
    obtain rfl:=aa CB s1 rfl
    have LA:s1.nx.ts.length=s1.ts.length-1:=List.length_tail
    have pq:F0=al (kK (.ok s1)) (dX ⟨pg,im,xm,xe⟩):=by
     show F0=dX _ s1.nx
     rw[←Kc nJ]
     exact (aa xN).f
    have rA:pU 1000000000 (bH (fm ⟨pg,im,xm,xe⟩)) (kK (.ok s1)):=(aa xN).l.next (by omega) (fun s' e=>by cases e;omega)
    have ho2:∀s',kK (.ok s1)=.ok s'→N5 s'∧s'.op=0∧(pg.toList==[])=!pk:=fun s' e=>by
     cases e
     have h1:=(aa xN).o s1 rfl
     exact ⟨h1.1.gi (jk.tail rfl ⟨rfl,rfl⟩),h1.2⟩
    obtain ⟨i,ci,fi,bD,ui⟩:=(aa xN).z.next (fun s' e=>by cases e;exact dL)
    obtain ⟨g1,z1⟩:=bD (wrap64 (i+1)) (fun s e=>eJ (ui s e))
    have lN:=ab ((aa xN).kept (G':=dX) mO g1 z1 pq rA ho2)
    have HM:Hid (mR (kK (.ok s1))<gk):=by have:=aa zu;show s1.nx.ts.length+1<gk;rw[this];show _<s1.ts.length+1;omega
    clear g1 z1 bD ui pq rA ho2 nJ LA xN
    go_wp2
    go_roundg (mR (kK (.ok s1)))
    case measure=>exact aa HM
    case rel=>exact ⟨_,_,_,pk,rfl,rfl,lN⟩
   |false =>
    go_upto_region 9 with fail
    go_cut [39] from 7 to 87 (fun v39 wx=>v39=.bool (fU R5 1 rb&&!pk)∧Hid (Below w23.heap.size w23 wx))
    case first =>
     go_wp2_with fail
     refine (iw (aa xN).z 1 (by decide) rb).mono ?_
     rintro e w0 ⟨rfl,hb⟩
     have HB:=ab hb
     clear hb
     obtain ⟨q,hq⟩:∃q,fU R5 1 rb=q:=⟨_,rfl⟩
     rw[hq]
     have HQ:=ab hq
     clear hq
     cases q with
     |true =>
      cases pk with
      |true=>go_wp2;go_meet;exact ⟨by rw[aa HQ];rfl,HB⟩
      |false=>go_wp2;go_meet;exact ⟨by rw[aa HQ];rfl,HB⟩
     |false=>go_wp2;go_meet;exact ⟨by rw[aa HQ];rfl,HB⟩
    case rest =>
    obtain ⟨Xk,fP⟩:∃x,x=wc:=⟨_,rfl⟩
    subst fP
    obtain ⟨rfl,hb⟩:=hcut
    have fz:=ab ((aa xN).kept (G':=gA) mO (aO (aa hb) (some b)) ((aa xN).z.up (aa hb)) (aa xN).f (aa xN).l (aa xN).o)
    clear hb xN
    obtain ⟨q,hq⟩:∃q,(fU R5 1 rb&&!pk)=q:=⟨_,rfl⟩
    rw[hq]
    have wX:=ab hq
    clear hq
    cases q with
    |true =>
     obtain ⟨Ql,yJ⟩:fU R5 1 rb=true∧pk=false:=by
      have h:=aa wX
      cases h1:fU R5 1 rb with
      |false=>rw[h1] at h;cases h
      |true=>cases pk with
       |false=>exact ⟨rfl,rfl⟩
       |true=>rw[h1] at h;cases h
     obtain ⟨s1,rfl,nJ⟩:=fB Ql
     obtain rfl:=aa CB s1 rfl
     have pM:¬aJ s1.here 4 ⟨#[59]⟩=true:=by rw[show aJ s1.here 4 ⟨#[59]⟩=false from aa GZ];decide
     subst yJ
     have Zw:(pg.toList==[])=true:=((aa fz).o s1 rfl).2.2
     have HFP:=ab (fun np hv=>Nl (x:=⟨pg,im,xm,xe⟩) (p:=np) pM nJ Zw hv)
     obtain ⟨i,ci,fi,bD,ui⟩:=(aa fz).z.next (fun s' e=>by cases e;exact dL)
     obtain ⟨g1,z1⟩:=bD (wrap64 (i+1)) (fun s e=>eJ (ui s e))
     have tn:=ab g1
     have Qx:=ab z1
     clear g1 z1 bD ui nJ pM Zw
     go_wp2_with fail
     refine (me (aa Qx) false false).mono ?_
     rintro e C5 ⟨hg,hz,v6,rfl,⟨np,rfl⟩,hv⟩
     have BW:=(aa tn).trans hg
     have js:C5.heap[W.heap.size+1]?=some (.cells #[.string pg,.slice oa im.length oc,.slice ma xm.length mc,.slice ea xe.length ec] 27 (0,0)):=ax BW (aa fz).m (by omega)
     have ky:=aC (j:=0) js (.string np)
     have Cj:=(cC js).1.1
     have B5:=(cC js).2 0
     have hz7:=hz.gu ky.2 (by omega)
     have HZ7:=ab hz7
     have HSB:=ab ky
     have Uq:=ab BW
     have HV:=ab hv
     clear hg hz BW js ky hz7 hv
     go_wp2_with fail
     refine (eW (aa HZ7) ⟨#[59]⟩).mono ?_
     rintro e w27 ⟨hg,hz,v7,rfl,mD,-⟩
     obtain rfl:=mD
     have pq:F0=al (aT (al (aT (al (kK (.ok s1)) (fun s=>ba false (ll false s)))) (au ⟨#[59]⟩))) (dX ⟨np,im,xm,xe⟩):=by
      rw[←aa HFP np (aa HV)]
      exact (aa fz).f
     have tX:=ab (fun s'=>Q9 (s:=s1) (s':=s'))
     obtain ⟨R8,hR8⟩:∃R8,R8=aT (al (aT (al (kK (.ok s1)) (fun s=>ba false (ll false s)))) (au ⟨#[59]⟩)):=⟨_,rfl⟩
     rw[←hR8] at pq tX hz
     have LA:s1.nx.ts.length=s1.ts.length-1:=List.length_tail
     have hle:∀s',R8=.ok s'→s'.ts.length<s1.ts.length:=fun s' e=>by have:=((aa tX s' e).1).len;omega
     have lN:Hid (CM W lo b F0 dX ⟨np,im,xm,xe⟩ ⟨(fa,fc),(oa,oc),(ma,mc),(ea,ec),(ra,rc),(ga,gc),cm,ce⟩ true R8 w27):=by
      have h1:=(aa fz).o s1 rfl
      refine ⟨(cx ((aa fz).g.trans (aa Uq)) (aa HSB).2 (by omega)).trans hg,hz,ax hg (ax (aa HSB).2 (ax (aa Uq) (aa fz).r (by omega)) (by omega)) (by omega),ax hg (aa HSB).1 (by omega),?_,pq,(aa fz).l.next (L':=bH (fm ⟨np,im,xm,xe⟩)) (by unfold bH fm;simp only;omega) hle,fun s' e=>⟨?_,?_,(aa tX s' e).2 np (aa HV)⟩⟩
      ·have h2:=(((aa fz).s.kept (aa Uq) (.inl mO)).kept (aa HSB).2 (.inr (by simp))).kept hg (.inl mO)
       exact ⟨h2.sl,h2.ms,h2.es⟩
      ·exact (h1.1.gi (s':=s1.nx) (jk.tail rfl ⟨rfl,rfl⟩)).gi (aa tX s' e).1
      ·exact ((aa tX s' e).1).op.trans h1.2.1
     have HM:Hid (mR R8<gk):=by
      have h1:=aa zu
      show _<gk
      rw[h1]
      cases hr:R8 with
      |error y=>show 0<s1.ts.length+1;omega
      |ok s'=>have:=hle s' hr;show s'.ts.length+1<s1.ts.length+1;omega
     clear hg hz pq hR8 LA hle tX HFP tn Qx HZ7 HSB Uq HV Cj B5 fz
     go_wp2
     go_roundg (mR R8)
     case measure=>exact aa HM
     case rel=>exact ⟨_,_,_,true,rfl,rfl,lN⟩
    |false =>
     have zv:=fz
     clear fz
     go_wp2_with fail
     refine (iw (aa zv).z 1 (by decide) j6).mono ?_
     rintro e zw ⟨rfl,hb⟩
     have fz:=ab ((aa zv).kept (G':=gA) mO (aO hb (some b)) ((aa zv).z.up hb) (aa zv).f (aa zv).l (aa zv).o)
     clear hb zv
     obtain ⟨q,hq⟩:∃q,fU R5 1 j6=q:=⟨_,rfl⟩
     rw[hq]
     have HQ3:=ab hq
     clear hq
     cases q with
     |true =>
      obtain ⟨s1,rfl,nJ⟩:=fB (aa HQ3)
      obtain rfl:=aa CB s1 rfl
      have Yc:Hid (¬aJ s1.here 4 ⟨#[59]⟩=true):=by show ¬_;rw[show aJ s1.here 4 ⟨#[59]⟩=false from aa GZ];decide
      have CK:=ab nJ
      clear nJ
      obtain ⟨s,Ku⟩:∃s,s=s1:=⟨_,rfl⟩
      subst Ku
      go_upto_region 15 with fail
      have hT:zw.drew.heap[W.heap.size+1]?=some (.cells #[.string pg,.slice oa im.length oc,.slice ma xm.length mc,.slice ea xe.length ec] 27 (0,0)):=(aa fz).m
      refine wp_region_any (by kernel_rfl) (dr (z:=7) (T:=fun w=>w.heap[W.heap.size+1]?=some (.cells #[.string pg,.slice oa im.length oc,.slice ma xm.length mc,.slice ea xe.length ec] 27 (0,0))) _ _ _ _ ?_)
      try (change dI _ _ _ _ _ _ _ _ _ (World.drew _))
      refine aB 0 (.pointer (some ⟨W.heap.size+1,1,none⟩)) 61 rfl rfl (Or.inl ⟨by rfl,fun w hw=>by go_simp⟩) hT ?_
      simp only[Act.put,zL,zM,zN]
      refine aB 1 (.slice oa im.length oc) 62 rfl rfl (Or.inl ⟨by rfl,fun w hw=>by have c:=(cC hw).1.2.1;go_simp⟩) hT ?_
      simp only[Act.put,zL,zM,zN]
      refine aB 2 (.pointer (some ⟨b,0,none⟩)) 63 rfl rfl (Or.inl ⟨by rfl,fun w hw=>by go_simp⟩) hT ?_
      simp only[Act.put,zL,zM,zN]
      refine aN 3 (by kernel_rfl) rfl (fun K hK=>?_)
      refine eB 64 rfl rfl 39 (Cm _) #[.tmp 63] #[55] rfl #[.pointer (some ⟨b,0,none⟩)] (by first|rfl|simp[Act.eval]) (CQ (R:=.ok s) (show Zr lo zw.drew b (.ok s) from (aa fz).z.drew) (fun s' e=>by cases e;exact aa CK)) ?_
      rintro o6 w6 ⟨hg,hz,v6,rfl,⟨d,rfl⟩,hv⟩
      have cN:zw.grownBy w6 (some b):=⟨hg.os,hg.tape,hg.output,hg.size,hg.block⟩
      have nB:Hid (F0=al (aT (al (.ok s) bq)) (dX ⟨pg,im++[d],xm,xe⟩)):=by
       refine (aa fz).f.trans ?_
       exact Np (x:=⟨pg,im,xm,xe⟩) (aa Yc) (fun q=>absurd ((bk.1 q).2.symm.trans (bk.1 (aa CK)).2) (cb (by decide +kernel))) (aa CK) hv
      have tX:Hid (∀s',aT (al (.ok s) bq)=.ok s'→Gt s s'):=fun s' e=>GU e (fun a s1 h=>ow h)
      have HL7:Hid (pU 1000000000 (bH (fm ⟨pg,im++[d],xm,xe⟩)) (aT (al (.ok s) bq))):=(aa fz).l.next (by unfold bH fm;simp only[zK];show 0+(im.length+1)+xm.length+xe.length+0+0≤_;simp only[List.length_nil];omega) (fun s' e=>dP (aa tX s' e) dL)
      have HL6:Hid (pU 1000000000 (bH (fm ⟨pg,im,xm,xe⟩)) (aT (al (.ok s) bq))):=(aa fz).l.next (by omega) (fun s' e=>dP (aa tX s' e) dL)
      have HO6:Hid (∀s',aT (al (.ok s) bq)=.ok s'→N5 s'∧s'.op=0∧(pg.toList==[])=!pk):=fun s' e=>by
       have h1:=(aa fz).o s rfl
       have h2:=(aa tX s' e).gi
       exact ⟨h1.1.gi h2,h2.op.trans h1.2.1,h1.2.2⟩
      have HM:Hid (mR (aT (al (.ok s) bq))<gk):=by
       have h1:=aa zu
       show _<gk
       rw[h1]
       cases hr:aT (al (.ok s) bq) with
       |error y=>show 0<s.ts.length+1;omega
       |ok s'=>have:=dP (aa tX s' hr) dL;show s'.ts.length+1<s.ts.length+1;omega
      have HO1:Hid (im.length+1≤maxLen):=by have:=(aa fz).l.1;unfold bH fm at this;simp only at this;show _≤_;unfold maxLen;omega
      have WV:Hid ((im.length+1)*16≤140737488355328):=by have:=(aa fz).l.1;unfold bH fm at this;simp only at this;show _≤_;omega
      have jl:Hid (CM W lo b F0 (fun x' s'=>dX ⟨pg,im++[d],xm,xe⟩ s') ⟨pg,im,xm,xe⟩ ⟨(fa,fc),(oa,oc),(ma,mc),(ea,ec),(ra,rc),(ga,gc),cm,ce⟩ pk (aT (al (.ok s) bq)) w6):=(aa fz).kept mO cN hz (aa nB) (aa HL6) (aa HO6)
      have js:w6.heap[W.heap.size+1]?=some (.cells #[.string pg,.slice oa im.length oc,.slice ma xm.length mc,.slice ea xe.length ec] 27 (0,0)):=(aa jl).m
      refine ⟨_,rfl,hK _ _ ⟨fun _=>js,?_⟩⟩
      clear hK K hg hz hv cN hT
      simp only[Act.put,zL,zM,zN]
      refine aN 4 (by kernel_rfl) rfl (fun K hK=>?_)
      go_simp
      refine hK _ _ ⟨fun _=>bL js _,?_⟩
      clear hK K
      refine aN 5 (by kernel_rfl) rfl (fun K hK=>?_)
      have Ad:W.heap.size≤w6.heap.size:=(aa jl).g.size
      have kN:=ab ((aa jl).alloc mO (.cells #[.string d] 9))
      refine dN rfl (.tmp 62) (.tmp 65) 22 rfl W.heap.size 9 i0 (.string ⟨#[]⟩) 1 16 Tryz.underlying22 hi zy zx jK rfl (by decide) (.slice oa im.length oc) im.length (dR im) (by first|rfl|simp[Act.eval]) ((aa kN).s.sl.own 1 _ rfl) ⟨w6.heap.size,0,none⟩ 1 1 [.string d] (by first|rfl|simp[Act.eval]) rfl (df _ _ _) (by simp[Value.oneCell']) (aa HO1) (aa WV) (by rw[zJ];omega) ?_
      intro v7 w7 dx cc jd
      obtain ⟨a7,c7,rfl⟩:=bY dx
      have fK:w7.heap[W.heap.size+1]?=some (.cells #[.string pg,.slice oa im.length oc,.slice ma xm.length mc,.slice ea xe.length ec] 27 (0,0)):=(aa kN).s.sl.lA (i:=1) rfl (by simp) (bL js _) cc
      have ky:=aC (j:=1) fK (.slice a7 (im.length+1) c7)
      have eV:Hid (CM W lo b F0 dX ⟨pg,im++[d],xm,xe⟩ ⟨(fa,fc),(a7,c7),(ma,mc),(ea,ec),(ra,rc),(ga,gc),cm,ce⟩ pk (aT (al (.ok s) bq)) (w7.setCell ⟨W.heap.size+1,1,none⟩ (.slice a7 (im.length+1) c7))):=by
       refine (aa kN).app (x':=⟨pg,im++[d],xm,xe⟩) (v':=⟨(fa,fc),(a7,c7),(ma,mc),(ea,ec),(ra,rc),(ga,gc),cm,ce⟩) cB.2 (aa kN).s.ms (aa kN).s.es (i:=1) rfl dx cc jd ?_ ?_ ky.2 (aa nB) (aa HL7) rfl
       ·simp only[MV.ss,td,fm,zK,mu]
        rfl
       ·simp only[MV.Cv,zK]
        exact ky.1
      have Cj:=(cC fK).1.2.1
      have B5:=(cC fK).2 1
      refine hK _ _ ⟨fun _=>fK,?_⟩
      clear hK K dx cc jd ky js kN jl
      simp only[Act.put,zL]
      refine aN 6 (by kernel_rfl) rfl (fun K hK=>?_)
      go_simp
      refine hK _ _ ⟨fun _=>fK,?_⟩
      clear hK K
      refine aN 7 (by kernel_rfl) rfl (fun K hK=>?_)
      go_simp
      refine hK _ _ ⟨fun q=>absurd rfl q,?_⟩
      clear hK K Cj B5 fK
      refine cP (by kernel_rfl) ?_
      clear fz
      go_wp2
      go_roundg (mR (aT (al (.ok s) bq)))
      case measure=>exact aa HM
      case rel=>exact ⟨_,_,_,pk,rfl,rfl,eV⟩
     |false =>
      have zv:=fz
      clear fz
      go_wp2_with fail
      refine (iw (aa zv).z 1 (by decide) hU).mono ?_
      rintro e zw ⟨rfl,hb⟩
      have fz:=ab ((aa zv).kept (G':=gA) mO (aO hb (some b)) ((aa zv).z.up hb) (aa zv).f (aa zv).l (aa zv).o)
      clear hb zv
      obtain ⟨q,hq⟩:∃q,fU R5 1 hU=q:=⟨_,rfl⟩
      rw[hq]
      have Yb:=ab hq
      clear hq
      cases q with
      |true =>
       obtain ⟨s1,rfl,nJ⟩:=fB (aa Yb)
       obtain rfl:=aa CB s1 rfl
       have Yc:Hid (¬aJ s1.here 4 ⟨#[59]⟩=true):=by show ¬_;rw[show aJ s1.here 4 ⟨#[59]⟩=false from aa GZ];decide
       have CK:=ab nJ
       clear nJ
       obtain ⟨s,Ku⟩:∃s,s=s1:=⟨_,rfl⟩
       subst Ku
       have RW:∀w,Zr lo w b (.ok s)→Calls Tryz.prog 40 #[.pointer (some ⟨b,0,none⟩),.int .i64 0] w (WD lo b w (bj 16384 s)):=fun w hz=>by
        have h1:=((aa fz).o s rfl).2.1
        have h2:=Fa 16384 w lo b s (aa zT).len hz (aa CK) (by omega)
        rw[h1] at h2
        exact h2
       have HMS:=ab RW
       clear RW
       go_upto_region 17 with fail
       have hT:zw.drew.heap[W.heap.size+1]?=some (.cells #[.string pg,.slice oa im.length oc,.slice ma xm.length mc,.slice ea xe.length ec] 27 (0,0)):=(aa fz).m
       refine wp_region_any (by kernel_rfl) (dr (z:=7) (T:=fun w=>w.heap[W.heap.size+1]?=some (.cells #[.string pg,.slice oa im.length oc,.slice ma xm.length mc,.slice ea xe.length ec] 27 (0,0))) _ _ _ _ ?_)
       try (change dI _ _ _ _ _ _ _ _ _ (World.drew _))
       refine aB 0 (.pointer (some ⟨W.heap.size+1,2,none⟩)) 71 rfl rfl (Or.inl ⟨by rfl,fun w hw=>by go_simp⟩) hT ?_
       simp only[Act.put,zL,zM,zN]
       refine aB 1 (.slice ma xm.length mc) 72 rfl rfl (Or.inl ⟨by rfl,fun w hw=>by have c:=(cC hw).1.2.2.1;go_simp⟩) hT ?_
       simp only[Act.put,zL,zM,zN]
       refine aB 2 (.pointer (some ⟨b,0,none⟩)) 73 rfl rfl (Or.inl ⟨by rfl,fun w hw=>by go_simp⟩) hT ?_
       simp only[Act.put,zL,zM,zN]
       refine aN 3 (by kernel_rfl) rfl (fun K hK=>?_)
       refine eB 74 rfl rfl 40 (tT _) #[.tmp 73,.const (.int .i64 0)] #[55,3] rfl #[.pointer (some ⟨b,0,none⟩),.int .i64 0] (by first|rfl|simp[Act.eval]) (aa HMS _ (show Zr lo zw.drew b (.ok s) from (aa fz).z.drew)) ?_
       rintro o6 w6 ⟨hg,hz,⟨qn,qf,qo,qm,qe,qr,qg⟩,⟨⟨b1,d1⟩,⟨b2,d2⟩,⟨b3,d3⟩,⟨b4,d4⟩,⟨b5,d5⟩,⟨b6,d6⟩,qcm,qce⟩,rfl,hS,hv⟩
       have cN:zw.grownBy w6 (some b):=⟨hg.os,hg.tape,hg.output,hg.size,hg.block⟩
       have Ow:=hS.sl.alloc (.cells #[.string qn,.slice b1 qf.length d1,.slice b2 qo.length d2,.slice b3 qm.length d3,.slice b4 qe.length d4,.slice b5 qr.length d5,.slice b6 qg.length d6] 49)
       have LC:W.heap.size≤zw.heap.size:=(aa fz).g.size
       have WW:Hid (eT (Nq W.heap.size [W.heap.size+1,W.heap.size] (MV.ss ⟨(fa,fc),(oa,oc),(ma,mc),(ea,ec),(ra,rc),(ga,gc),cm,ce⟩ (fm ⟨pg,im,xm,xe⟩))) (w6.alloc (.cells #[.string qn,.slice b1 qf.length d1,.slice b2 qo.length d2,.slice b3 qm.length d3,.slice b4 qe.length d4,.slice b5 qr.length d5,.slice b6 qg.length d6] 49)) [.string qn,.slice b1 qf.length d1,.slice b2 qo.length d2,.slice b3 qm.length d3,.slice b4 qe.length d4,.slice b5 qr.length d5,.slice b6 qg.length d6] [(Ms.mk qn qf qo qm qe qr qg)]):=by
        have nq:∀k,zw.heap.size≤k→k<w6.heap.size→Nq W.heap.size [W.heap.size+1,W.heap.size] (MV.ss ⟨(fa,fc),(oa,oc),(ma,mc),(ea,ec),(ra,rc),(ga,gc),cm,ce⟩ (fm ⟨pg,im,xm,xe⟩)) k:=fun k h1 h2=>(yt (aa fz).s LC h1 h2).less (fun k hk=>zF _ hk)
        have goes:∀P:Nat→Prop,(∀k,P k→zw.heap.size≤k)→wZ P (Nq W.heap.size [W.heap.size+1,W.heap.size] (MV.ss ⟨(fa,fc),(oa,oc),(ma,mc),(ea,ec),(ra,rc),(ga,gc),cm,ce⟩ (fm ⟨pg,im,xm,xe⟩))) w6 (w6.alloc (.cells #[.string qn,.slice b1 qf.length d1,.slice b2 qo.length d2,.slice b3 qm.length d3,.slice b4 qe.length d4,.slice b5 qr.length d5,.slice b6 qg.length d6] 49)):=fun P hP k hp hk=>⟨nq k (hP k hp) hk,Below.heap_alloc _ _ _ hk⟩
        have q:∀(i:Nat) (sl:Slot),(MV.ss ⟨(b1,d1),(b2,d2),(b3,d3),(b4,d4),(b5,d5),(b6,d6),qcm,qce⟩ ⟨qn,qf,qo,qm,qe,qr,qg⟩)[i]?=some sl→je (Nq W.heap.size [W.heap.size+1,W.heap.size] (MV.ss ⟨(fa,fc),(oa,oc),(ma,mc),(ea,ec),(ra,rc),(ga,gc),cm,ce⟩ (fm ⟨pg,im,xm,xe⟩))) (w6.alloc (.cells #[.string qn,.slice b1 qf.length d1,.slice b2 qo.length d2,.slice b3 qm.length d3,.slice b4 qe.length d4,.slice b5 qr.length d5,.slice b6 qg.length d6] 49)) sl.t sl.sz sl.v sl.n sl.xs:=fun i sl hi=>⟨ML (Ow.own i sl hi),fun k hk=>nq k ((hS.sl.own i sl hi).lt k hk).1 ((hS.sl.own i sl hi).lt k hk).2⟩
        exact .cons (q 0 _ rfl) (q 1 _ rfl) (q 2 _ rfl) (eX _ _ _ _ _ _ (goes _ (fun k hp=>hp.1)) hS.ms) (q 3 _ rfl) (eO _ _ _ _ _ _ (goes _ (fun k hp=>hp.1)) hS.es) (q 4 _ rfl) (q 5 _ rfl) .nil
       have nB:Hid (F0=al (aT (bj 16384 s)) (dX ⟨pg,im,xm++[(Ms.mk qn qf qo qm qe qr qg)],xe⟩)):=by
        refine (aa fz).f.trans ?_
        exact Nn (x:=⟨pg,im,xm,xe⟩) (d:=(Ms.mk qn qf qo qm qe qr qg)) (aa Yc) (fun q=>absurd ((bk.1 q).2.symm.trans (bk.1 (aa CK)).2) (cb (by decide +kernel))) (fun q=>absurd ((bk.1 q).2.symm.trans (bk.1 (aa CK)).2) (cb (by decide +kernel))) (aa CK) hv
       have tX:Hid (∀s',aT (bj 16384 s)=.ok s'→Gt s s'):=fun s' e=>GU e (fun a s1 h=>kX 16384 _ _ _ h)
       have HL7:Hid (pU 1000000000 (bH (fm ⟨pg,im,xm++[(Ms.mk qn qf qo qm qe qr qg)],xe⟩)) (aT (bj 16384 s))):=(aa fz).l.next (by unfold bH fm;simp only[zK];show 0+im.length+(xm.length+1)+xe.length+0+0≤_;simp only[List.length_nil];omega) (fun s' e=>dP (aa tX s' e) dL)
       have HL6:Hid (pU 1000000000 (bH (fm ⟨pg,im,xm,xe⟩)) (aT (bj 16384 s))):=(aa fz).l.next (by omega) (fun s' e=>dP (aa tX s' e) dL)
       have HO6:Hid (∀s',aT (bj 16384 s)=.ok s'→N5 s'∧s'.op=0∧(pg.toList==[])=!pk):=fun s' e=>by
        have h1:=(aa fz).o s rfl
        have h2:=(aa tX s' e).gi
        exact ⟨h1.1.gi h2,h2.op.trans h1.2.1,h1.2.2⟩
       have HM:Hid (mR (aT (bj 16384 s))<gk):=by
        have h1:=aa zu
        show _<gk
        rw[h1]
        cases hr:aT (bj 16384 s) with
        |error y=>show 0<s.ts.length+1;omega
        |ok s'=>have:=dP (aa tX s' hr) dL;show s'.ts.length+1<s.ts.length+1;omega
       have HO1:Hid (xm.length+1≤maxLen):=by have:=(aa fz).l.1;unfold bH fm at this;simp only at this;show _≤_;unfold maxLen;omega
       have WV:Hid ((xm.length+1)*160≤140737488355328):=by have:=(aa fz).l.1;unfold bH fm at this;simp only at this;show _≤_;omega
       clear hS Ow LC
       have jl:Hid (CM W lo b F0 (fun x' s'=>dX ⟨pg,im,xm++[(Ms.mk qn qf qo qm qe qr qg)],xe⟩ s') ⟨pg,im,xm,xe⟩ ⟨(fa,fc),(oa,oc),(ma,mc),(ea,ec),(ra,rc),(ga,gc),cm,ce⟩ pk (aT (bj 16384 s)) w6):=(aa fz).kept mO cN hz (aa nB) (aa HL6) (aa HO6)
       have js:w6.heap[W.heap.size+1]?=some (.cells #[.string pg,.slice oa im.length oc,.slice ma xm.length mc,.slice ea xe.length ec] 27 (0,0)):=(aa jl).m
       refine ⟨_,rfl,hK _ _ ⟨fun _=>js,?_⟩⟩
       clear hK K hg hz hv cN hT
       simp only[Act.put,zL,zM,zN,MV.arr]
       refine aN 4 (by kernel_rfl) rfl (fun K hK=>?_)
       go_simp
       refine hK _ _ ⟨fun _=>bL js _,?_⟩
       clear hK K
       refine aN 5 (by kernel_rfl) rfl (fun K hK=>?_)
       have Ad:W.heap.size≤w6.heap.size:=(aa jl).g.size
       have kN:=ab ((aa jl).alloc mO (.cells #[.string qn,.slice b1 qf.length d1,.slice b2 qo.length d2,.slice b3 qm.length d3,.slice b4 qe.length d4,.slice b5 qr.length d5,.slice b6 qg.length d6] 49))
       refine dN rfl (.tmp 72) (.tmp 75) 24 rfl W.heap.size 49 g0 (.agg #[.string ⟨#[]⟩,.slice none 0 0,.slice none 0 0,.slice none 0 0,.slice none 0 0,.slice none 0 0,.slice none 0 0]) 7 160 Tryz.underlying24 F9 gz0 gz1 gz2 rfl (by decide) (.slice ma xm.length mc) xm.length (cm) (by first|rfl|simp[Act.eval]) ((aa kN).s.sl.own 2 _ rfl) ⟨w6.heap.size,0,none⟩ 1 1 [.string qn,.slice b1 qf.length d1,.slice b2 qo.length d2,.slice b3 qm.length d3,.slice b4 qe.length d4,.slice b5 qr.length d5,.slice b6 qg.length d6] (by first|rfl|simp[Act.eval]) rfl (df _ _ _) (by simp[Value.oneCell']) (aa HO1) (aa WV) (by rw[zJ];omega) ?_
       intro v7 w7 dx cc jd
       obtain ⟨a7,c7,rfl⟩:=bY dx
       have fK:w7.heap[W.heap.size+1]?=some (.cells #[.string pg,.slice oa im.length oc,.slice ma xm.length mc,.slice ea xe.length ec] 27 (0,0)):=(aa kN).s.sl.lA (i:=2) rfl (by simp) (bL js _) cc
       have ky:=aC (j:=2) fK (.slice a7 (xm.length+1) c7)
       have eV:Hid (CM W lo b F0 dX ⟨pg,im,xm++[(Ms.mk qn qf qo qm qe qr qg)],xe⟩ ⟨(fa,fc),(oa,oc),(a7,c7),(ea,ec),(ra,rc),(ga,gc),cm++([.string qn,.slice b1 qf.length d1,.slice b2 qo.length d2,.slice b3 qm.length d3,.slice b4 qe.length d4,.slice b5 qr.length d5,.slice b6 qg.length d6]:List Value),ce⟩ pk (aT (bj 16384 s)) (w7.setCell ⟨W.heap.size+1,2,none⟩ (.slice a7 (xm.length+1) c7))):=by
        refine (aa kN).app (x':=⟨pg,im,xm++[(Ms.mk qn qf qo qm qe qr qg)],xe⟩) (v':=⟨(fa,fc),(oa,oc),(a7,c7),(ea,ec),(ra,rc),(ga,gc),cm++([.string qn,.slice b1 qf.length d1,.slice b2 qo.length d2,.slice b3 qm.length d3,.slice b4 qe.length d4,.slice b5 qr.length d5,.slice b6 qg.length d6]:List Value),ce⟩) cB.2 (eT.app (aa kN).s.ms (aa WW)) (aa kN).s.es (i:=2) rfl dx cc jd ?_ ?_ ky.2 (aa nB) (aa HL7) rfl
        ·simp only[MV.ss,td,fm,zK]
         rfl
        ·simp only[MV.Cv,zK]
         exact ky.1
       have Cj:=(cC fK).1.2.2.1
       have B5:=(cC fK).2 2
       refine hK _ _ ⟨fun _=>fK,?_⟩
       clear hK K dx cc jd ky js kN jl
       simp only[Act.put,zL]
       refine aN 6 (by kernel_rfl) rfl (fun K hK=>?_)
       go_simp
       refine hK _ _ ⟨fun _=>fK,?_⟩
       clear hK K
       refine aN 7 (by kernel_rfl) rfl (fun K hK=>?_)
       go_simp
       refine hK _ _ ⟨fun q=>absurd rfl q,?_⟩
       clear hK K Cj B5 fK
       refine cP (by kernel_rfl) ?_
       clear fz
       go_wp2
       go_roundg (mR (aT (bj 16384 s)))
       case measure=>exact aa HM
       case rel=>exact ⟨_,_,_,pk,rfl,rfl,eV⟩
      |false =>
       have zv:=fz
       clear fz
       go_wp2_with fail
       refine (iw (aa zv).z 1 (by decide) lj).mono ?_
       rintro e zw ⟨rfl,hb⟩
       have fz:=ab ((aa zv).kept (G':=gA) mO (aO hb (some b)) ((aa zv).z.up hb) (aa zv).f (aa zv).l (aa zv).o)
       clear hb zv
       obtain ⟨q,hq⟩:∃q,fU R5 1 lj=q:=⟨_,rfl⟩
       rw[hq]
       have HQ5:=ab hq
       clear hq
       cases q with
       |true =>
        obtain ⟨s1,rfl,nJ⟩:=fB (aa HQ5)
        obtain rfl:=aa CB s1 rfl
        have Yc:Hid (¬aJ s1.here 4 ⟨#[59]⟩=true):=by show ¬_;rw[show aJ s1.here 4 ⟨#[59]⟩=false from aa GZ];decide
        have CK:=ab nJ
        clear nJ
        obtain ⟨s,Ku⟩:∃s,s=s1:=⟨_,rfl⟩
        subst Ku
        go_upto_region 19 with fail
        have hT:zw.drew.heap[W.heap.size+1]?=some (.cells #[.string pg,.slice oa im.length oc,.slice ma xm.length mc,.slice ea xe.length ec] 27 (0,0)):=(aa fz).m
        refine wp_region_any (by kernel_rfl) (dr (z:=7) (T:=fun w=>w.heap[W.heap.size+1]?=some (.cells #[.string pg,.slice oa im.length oc,.slice ma xm.length mc,.slice ea xe.length ec] 27 (0,0))) _ _ _ _ ?_)
        try (change dI _ _ _ _ _ _ _ _ _ (World.drew _))
        refine aB 0 (.pointer (some ⟨W.heap.size+1,3,none⟩)) 81 rfl rfl (Or.inl ⟨by rfl,fun w hw=>by go_simp⟩) hT ?_
        simp only[Act.put,zL,zM,zN]
        refine aB 1 (.slice ea xe.length ec) 82 rfl rfl (Or.inl ⟨by rfl,fun w hw=>by have c:=(cC hw).1.2.2.2;go_simp⟩) hT ?_
        simp only[Act.put,zL,zM,zN]
        refine aB 2 (.pointer (some ⟨b,0,none⟩)) 83 rfl rfl (Or.inl ⟨by rfl,fun w hw=>by go_simp⟩) hT ?_
        simp only[Act.put,zL,zM,zN]
        refine aN 3 (by kernel_rfl) rfl (fun K hK=>?_)
        refine eB 84 rfl rfl 41 (El _) #[.tmp 83] #[55] rfl #[.pointer (some ⟨b,0,none⟩)] (by first|rfl|simp[Act.eval]) (G5 (R:=.ok s) (show Zr lo zw.drew b (.ok s) from (aa fz).z.drew) (fun s' e=>by cases e;exact aa CK)) ?_
        rintro o6 w6 ⟨hg,hz,en,a1,c1,a2,c2,a3,c3,rfl,hS,hv⟩
        have cN:zw.grownBy w6 (some b):=⟨hg.os,hg.tape,hg.output,hg.size,hg.block⟩
        have Ow:=hS.alloc (.cells #[.string en.name,.slice a1 en.bS.length c1,.slice a2 en.res.length c2,.slice a3 en.gone.length c3] 71)
        have LC:W.heap.size≤zw.heap.size:=(aa fz).g.size
        have WW:Hid (fE (Nq W.heap.size [W.heap.size+1,W.heap.size] (MV.ss ⟨(fa,fc),(oa,oc),(ma,mc),(ea,ec),(ra,rc),(ga,gc),cm,ce⟩ (fm ⟨pg,im,xm,xe⟩))) (w6.alloc (.cells #[.string en.name,.slice a1 en.bS.length c1,.slice a2 en.res.length c2,.slice a3 en.gone.length c3] 71)) [.string en.name,.slice a1 en.bS.length c1,.slice a2 en.res.length c2,.slice a3 en.gone.length c3] [en]):=by
         have nq:∀k,zw.heap.size≤k→k<w6.heap.size→Nq W.heap.size [W.heap.size+1,W.heap.size] (MV.ss ⟨(fa,fc),(oa,oc),(ma,mc),(ea,ec),(ra,rc),(ga,gc),cm,ce⟩ (fm ⟨pg,im,xm,xe⟩)) k:=fun k h1 h2=>(yt (aa fz).s LC h1 h2).less (fun k hk=>zF _ hk)
         have q:∀(i:Nat) (sl:Slot),(ES en (.slice a1 en.bS.length c1) (.slice a2 en.res.length c2) (.slice a3 en.gone.length c3))[i]?=some sl→je (Nq W.heap.size [W.heap.size+1,W.heap.size] (MV.ss ⟨(fa,fc),(oa,oc),(ma,mc),(ea,ec),(ra,rc),(ga,gc),cm,ce⟩ (fm ⟨pg,im,xm,xe⟩))) (w6.alloc (.cells #[.string en.name,.slice a1 en.bS.length c1,.slice a2 en.res.length c2,.slice a3 en.gone.length c3] 71)) sl.t sl.sz sl.v sl.n sl.xs:=fun i sl hi=>⟨ML (Ow.own i sl hi),fun k hk=>nq k ((hS.own i sl hi).lt k hk).1 ((hS.own i sl hi).lt k hk).2⟩
         exact .cons (q 0 _ rfl) (q 1 _ rfl) (q 2 _ rfl) .nil
        have nB:Hid (F0=al (aT (al (.ok s) db)) (dX ⟨pg,im,xm,xe++[en]⟩)):=by
         refine (aa fz).f.trans ?_
         exact RB (x:=⟨pg,im,xm,xe⟩) (aa Yc) (fun q=>absurd ((bk.1 q).2.symm.trans (bk.1 (aa CK)).2) (cb (by decide +kernel))) (fun q=>absurd ((bk.1 q).2.symm.trans (bk.1 (aa CK)).2) (cb (by decide +kernel))) (fun q=>absurd ((bk.1 q).2.symm.trans (bk.1 (aa CK)).2) (cb (by decide +kernel))) (aa CK) hv
        have tX:Hid (∀s',aT (al (.ok s) db)=.ok s'→Gt s s'):=fun s' e=>GU e (fun a s1 h=>rF h)
        have HL7:Hid (pU 1000000000 (bH (fm ⟨pg,im,xm,xe++[en]⟩)) (aT (al (.ok s) db))):=(aa fz).l.next (by unfold bH fm;simp only[zK];show 0+im.length+xm.length+(xe.length+1)+0+0≤_;simp only[List.length_nil];omega) (fun s' e=>dP (aa tX s' e) dL)
        have HL6:Hid (pU 1000000000 (bH (fm ⟨pg,im,xm,xe⟩)) (aT (al (.ok s) db))):=(aa fz).l.next (by omega) (fun s' e=>dP (aa tX s' e) dL)
        have HO6:Hid (∀s',aT (al (.ok s) db)=.ok s'→N5 s'∧s'.op=0∧(pg.toList==[])=!pk):=fun s' e=>by
         have h1:=(aa fz).o s rfl
         have h2:=(aa tX s' e).gi
         exact ⟨h1.1.gi h2,h2.op.trans h1.2.1,h1.2.2⟩
        have HM:Hid (mR (aT (al (.ok s) db))<gk):=by
         have h1:=aa zu
         show _<gk
         rw[h1]
         cases hr:aT (al (.ok s) db) with
         |error y=>show 0<s.ts.length+1;omega
         |ok s'=>have:=dP (aa tX s' hr) dL;show s'.ts.length+1<s.ts.length+1;omega
        have HO1:Hid (xe.length+1≤maxLen):=by have:=(aa fz).l.1;unfold bH fm at this;simp only at this;show _≤_;unfold maxLen;omega
        have WV:Hid ((xe.length+1)*88≤140737488355328):=by have:=(aa fz).l.1;unfold bH fm at this;simp only at this;show _≤_;omega
        clear hS Ow LC
        have jl:Hid (CM W lo b F0 (fun x' s'=>dX ⟨pg,im,xm,xe++[en]⟩ s') ⟨pg,im,xm,xe⟩ ⟨(fa,fc),(oa,oc),(ma,mc),(ea,ec),(ra,rc),(ga,gc),cm,ce⟩ pk (aT (al (.ok s) db)) w6):=(aa fz).kept mO cN hz (aa nB) (aa HL6) (aa HO6)
        have js:w6.heap[W.heap.size+1]?=some (.cells #[.string pg,.slice oa im.length oc,.slice ma xm.length mc,.slice ea xe.length ec] 27 (0,0)):=(aa jl).m
        refine ⟨_,rfl,hK _ _ ⟨fun _=>js,?_⟩⟩
        clear hK K hg hz hv cN hT
        simp only[Act.put,zL,zM,zN]
        refine aN 4 (by kernel_rfl) rfl (fun K hK=>?_)
        go_simp
        refine hK _ _ ⟨fun _=>bL js _,?_⟩
        clear hK K
        refine aN 5 (by kernel_rfl) rfl (fun K hK=>?_)
        have Ad:W.heap.size≤w6.heap.size:=(aa jl).g.size
        have kN:=ab ((aa jl).alloc mO (.cells #[.string en.name,.slice a1 en.bS.length c1,.slice a2 en.res.length c2,.slice a3 en.gone.length c3] 71))
        refine dN rfl (.tmp 82) (.tmp 85) 25 rfl W.heap.size 71 d0 (.agg #[.string ⟨#[]⟩,.slice none 0 0,.slice none 0 0,.slice none 0 0]) 4 88 Tryz.underlying25 Ae dz0 dz1 dz2 rfl (by decide) (.slice ea xe.length ec) xe.length (ce) (by first|rfl|simp[Act.eval]) ((aa kN).s.sl.own 3 _ rfl) ⟨w6.heap.size,0,none⟩ 1 1 [.string en.name,.slice a1 en.bS.length c1,.slice a2 en.res.length c2,.slice a3 en.gone.length c3] (by first|rfl|simp[Act.eval]) rfl (df _ _ _) (by simp[Value.oneCell']) (aa HO1) (aa WV) (by rw[zJ];omega) ?_
        intro v7 w7 dx cc jd
        obtain ⟨a7,c7,rfl⟩:=bY dx
        have fK:w7.heap[W.heap.size+1]?=some (.cells #[.string pg,.slice oa im.length oc,.slice ma xm.length mc,.slice ea xe.length ec] 27 (0,0)):=(aa kN).s.sl.lA (i:=3) rfl (by simp) (bL js _) cc
        have ky:=aC (j:=3) fK (.slice a7 (xe.length+1) c7)
        have eV:Hid (CM W lo b F0 dX ⟨pg,im,xm,xe++[en]⟩ ⟨(fa,fc),(oa,oc),(ma,mc),(a7,c7),(ra,rc),(ga,gc),cm,ce++([.string en.name,.slice a1 en.bS.length c1,.slice a2 en.res.length c2,.slice a3 en.gone.length c3]:List Value)⟩ pk (aT (al (.ok s) db)) (w7.setCell ⟨W.heap.size+1,3,none⟩ (.slice a7 (xe.length+1) c7))):=by
         refine (aa kN).app (x':=⟨pg,im,xm,xe++[en]⟩) (v':=⟨(fa,fc),(oa,oc),(ma,mc),(a7,c7),(ra,rc),(ga,gc),cm,ce++([.string en.name,.slice a1 en.bS.length c1,.slice a2 en.res.length c2,.slice a3 en.gone.length c3]:List Value)⟩) cB.2 (aa kN).s.ms (fE.app (aa kN).s.es (aa WW)) (i:=3) rfl dx cc jd ?_ ?_ ky.2 (aa nB) (aa HL7) rfl
         ·simp only[MV.ss,td,fm,zK]
          rfl
         ·simp only[MV.Cv,zK]
          exact ky.1
        have Cj:=(cC fK).1.2.2.2
        have B5:=(cC fK).2 3
        refine hK _ _ ⟨fun _=>fK,?_⟩
        clear hK K dx cc jd ky js kN jl
        simp only[Act.put,zL]
        refine aN 6 (by kernel_rfl) rfl (fun K hK=>?_)
        go_simp
        refine hK _ _ ⟨fun _=>fK,?_⟩
        clear hK K
        refine aN 7 (by kernel_rfl) rfl (fun K hK=>?_)
        go_simp
        refine hK _ _ ⟨fun q=>absurd rfl q,?_⟩
        clear hK K Cj B5 fK
        refine cP (by kernel_rfl) ?_
        clear fz
        go_wp2
        go_roundg (mR (aT (al (.ok s) db)))
        case measure=>exact aa HM
        case rel=>exact ⟨_,_,_,pk,rfl,rfl,eV⟩
       |false =>
        have hfw:F0=al (kP R5) (dX ⟨pg,im,xm,xe⟩):=by
         rw[←FM (aa GZ) (fun h1=>by
          have h:=aa wX
          rw[h1] at h
          have h2:pk=true:=by cases pk with|true=>rfl|false=>cases h
          match R5,h1,aa CB,(aa fz).o with
          |.ok s1,_,fJ,ho=>rw[h2] at ho;exact (ho s1 rfl).2.2) (aa HQ3) (aa Yb) (aa HQ5)]
         exact (aa fz).f
        have HFW:=ab hfw
        have hnk:∀s',kP R5≠.ok s':=fun s' e=>by cases R5<;>cases e
        have HNK:=ab hnk
        clear hfw hnk
        go_wp2_with fail
        refine (kO (aa fz).z).mono ?_
        rintro e C5 ⟨rfl,hg,hz⟩
        have lN:=ab ((aa fz).kept (G':=dX) mO hg hz (aa HFW) ⟨(aa fz).l.1,fun s' e=>absurd e (aa HNK s')⟩ (fun s' e=>absurd e (aa HNK s')))
        have HM:Hid (mR (kP R5)<gk):=by
         have h1:=aa zu
         show _<gk
         rw[h1]
         cases hr:kP R5 with
         |error y=>show 0<s.ts.length+1;omega
         |ok s'=>exact absurd hr (aa HNK s')
        clear hg hz fz HFW
        go_wp2
        go_roundg (mR (kP R5))
        case measure=>exact aa HM
        case rel=>exact ⟨_,_,_,pk,rfl,rfl,lN⟩
  |false =>
   obtain ⟨he,hva⟩:=V8 (aa jV).z.2 (aa jx) (aa jV).f
   have jK:Zr lo zW b (aT F0):=by rw[he];exact (aa jV).z
   have HVA:=ab hva
   clear he hva
   have AS:zW.heap[W.heap.size+1]?=some (.cells #[.string pg,.slice oa im.length oc,.slice ma xm.length mc,.slice ea xe.length ec] 27 (0,0)):=(aa jV).m
   have AR:zW.heap[W.heap.size]?=some (.cells #[.string ⟨#[]⟩,.slice none 0 0,.slice none 0 0,.slice none 0 0] 27 (0,0)):=(aa jV).r
   obtain ⟨⟨TZ,XT,TY,XS⟩,R7⟩:=cC AS
   obtain ⟨⟨xC,xB,xA,cr3⟩,dp⟩:=cC AR
   have uu:=dp 0
   have ur:=dp 1
   have uq:=dp 2
   have fr3:=dp 3
   obtain ⟨t1,t2⟩:=FB AR (.string pg) (.slice oa im.length oc) (.slice ma xm.length mc) (.slice ea xe.length ec)
   have T1:=ab t1
   have T2:=ab (cx (aa jV).g t2 (zD _))
   have T3:=ab (jK.gu t2 cB.2)
   have T4:=ab (((aa jV).s.kept t2 (.inr (by simp))).less (L':=[]) (by simp))
   clear t1 t2 R7 dp AS AR jK jV jx
   go_wp2
   refine bodyPost_ret (results_cell_row rfl _ _ W.heap.size 27 #[.string pg,.slice oa im.length oc,.slice ma xm.length mc,.slice ea xe.length ec] (0,0) _ rfl (aa T1) Tryz.underlying27 rfl xZ) rfl ?_
   rw[←aa E5]
   exact ⟨aa T2,aa T3,⟨pg,im,xm,xe⟩,⟨(fa,fc),(oa,oc),(ma,mc),(ea,ec),(ra,rc),(ga,gc),cm,ce⟩,rfl,aa T4,aa HVA⟩
end Go.Proofs.YtjophoclfccmcaaGreatDoor

import Derived.Test.YtichhjfjcinjgaaGreatDoorM38
set_option maxHeartbeats 4000000
set_option maxRecDepth 100000
namespace Go.Proofs.YtichhjfjcinjgaaGreatDoor
open Go.RowKit
attribute [local go_sem ↓] Go.wp_at_zero Go.wp_at_succ
theorem xQ {j:Nat} (y:Value):¬vx 26 j y:=by
 rintro (h|h|h|h|h|h)<;>exact absurd h.1 (by decide)
theorem slice_inj {a b:Option Addr}{n m c d:Nat} (h:Value.slice a n c=.slice b m d):a=b∧n=m∧c=d:=by injection h with h1 h2 h3;exact ⟨h1,h2,h3⟩
theorem mN {B:Nat}{w0:World}{v vi vm ve:Value}{F:Fl}{cm ce:List Value} (h:J0 (fun g=>B≤g) w0 v F vi vm ve cm ce) {f:Nat} (hd:∀m ∈ F.ms,tL f m) (hB:B≤w0.heap.size) :
  Calls Tryz.prog 13 #[v] w0 fun e w'=>e=.returned (.tuple #[])∧Sp B w0 w':=by
 obtain ⟨pk,is,ms,es⟩:=F
 obtain ⟨a1,c1,e1,m1,-⟩:=h.hi.wr
 obtain ⟨a2,c2,e2,m2,-⟩:=h.hm.wr
 obtain ⟨a3,c3,e3,m3,-⟩:=h.he.wr
 obtain rfl:=h.is
 subst e1 e2 e3
 simp only at m1 m2 m3 hd ⊢
 have kb:=aJ w0 (.cells #[.string pk,.slice a1 is.length c1,.slice a2 ms.length c2,.slice a3 es.length c3] 26)
 have hb:Below w0.heap.size w0 (w0.alloc (.cells #[.string pk,.slice a1 is.length c1,.slice a2 ms.length c2,.slice a3 es.length c3] 26)):=(zE _ _).alloc (zD _) _
 obtain ⟨V,hV⟩:∃V,w0.alloc (.cells #[.string pk,.slice a1 is.length c1,.slice a2 ms.length c2,.slice a3 es.length c3] 26)=V:=⟨_,rfl⟩
 rw[hV] at kb hb
 have h:=h.mono (aB hb)
 have TD:=al (Nat.le_trans hB hb.size)
 have HV0:=al (Sp.below hb hB)
 have HX:Hid (∀w',Sp B V w'→w'.cell? ⟨w0.heap.size,1,none⟩=some (.slice a1 is.length c1)∧w'.cell? ⟨w0.heap.size,2,none⟩=some (.slice a2 ms.length c2)∧w'.cell? ⟨w0.heap.size,3,none⟩=some (.slice a3 es.length c3)):=fun w' h=>⟨h.cell hB kb (j:=1) rfl xQ,h.cell hB kb (j:=2) rfl xQ,h.cell hB kb (j:=3) rfl xQ⟩
 have HM:Hid (∀w',Sp B V w'→Calls Tryz.prog 32 #[.slice a2 ms.length c2] w' fun e w2=>e=.returned (.tuple #[])∧Sp B w' w2):=fun w' hs=>by
  obtain ⟨x3,y3,z3⟩:=h.hm.sp (fun _ h=>h) hs
  obtain ⟨l3,p3,q3⟩:=h.eo.sp (fun _ h=>h) hs 0 x3 rfl z3
  have y4:gU (fun g=>B≤g) w' 46 7 (.slice a2 ms.length c2) l3.length x3:=by rw[q3.len];exact y3
  have:=qM f B w' _ l3 x3 y4 p3 (q3.dp f hd) (Nat.le_trans (ab TD) hs.bU.size)
  exact this
 obtain ⟨a1',LS,e1,-,k1⟩:=h.hi.wr
 obtain ⟨rfl,-,rfl⟩:=slice_inj e1
 obtain ⟨a3',c3',e3,-,k3⟩:=I' h.he h.fA
 obtain ⟨rfl,-,rfl⟩:=slice_inj e3
 have K1:=al k1
 have K3:=al k3
 have Er:=al (Sp.refl B V)
 obtain ⟨x1,x2,x3⟩:=ab HX V (ab Er)
 obtain ⟨nI,CE⟩:∃n,is.length=n:=⟨_,rfl⟩
 obtain ⟨nM,DV⟩:∃n,ms.length=n:=⟨_,rfl⟩
 obtain ⟨nE,P1⟩:∃n,es.length=n:=⟨_,rfl⟩
 rw[CE] at K1 m1 hV HX x1;rw[DV] at m2 hV HX HM x2;rw[P1] at K3 m3 hV HX x3
 rw[CE,DV,P1]
 clear h hd hB kb hb k1 k3 e1 e3 CE DV P1
 go_enter Tryz.func13,Tryz.ntmps13
 go_wp2
 go_loopg [2] nI (fun gk vq wr=>∃(k:Nat),vq=.int .i64 (k:Int)∧gk=nI-k∧k≤nI∧Hid (Sp B V wr))
 case atStart=>exact ⟨0,rfl,rfl,by omega,ab Er⟩
 case round =>
  obtain ⟨k,rfl,aW,eV,JS⟩:=hrel
  have bz:=al aW
  clear aW Er
  clear x1 x2 x3
  obtain ⟨x1,x2,x3⟩:=ab HX wr (ab JS)
  by_cases aM:k<nI
  ·obtain ⟨g,cur,rfl,hg,hh,hn⟩:=ab K1 (by omega)
   obtain ⟨iU,kj,kI,-⟩:=(ab JS).dt g cur _ hg hh
   obtain ⟨y0,d0,z0⟩:=ej (j:=k) kj (by omega)
   obtain ⟨s0,t0⟩:=Sp.put (ab JS) (⟨_,kj⟩:nR wr g 9) hg (j:=k) (y:=.string ⟨#[115,112,111,105,108,116]⟩) (Dx _)
   have vC:=al s0
   have i0:(0:Int)≤(k:Int):=zH _
   have i1:(k:Int)<(nI:Int):=by omega
   have bu:=al aM
   clear hh hg hn kj kI aM s0 t0
   go_wp2
   go_roundg (nI-(k+1))
   case measure=>have:=ab bz;have:=ab bu;omega
   case rel=>exact ⟨k+1,by go_num,rfl,ab bu,ab vC⟩
  ·obtain rfl:k=nI:=by omega
   obtain ⟨woa,iI⟩:∃x,x=wr:=⟨_,rfl⟩
   subst iI
   clear aM eV bz
   go_wp2
   go_loopg [3] nE (fun gk vq wr=>∃(k:Nat),vq=.int .i64 (k:Int)∧gk=nE-k∧k≤nE∧Hid (Sp B V wr))
   case atStart=>exact ⟨0,rfl,rfl,by omega,ab JS⟩
   case round =>
    obtain ⟨k,rfl,aW,eV,qC⟩:=hrel
    have bz:=al aW
    clear aW JS
    clear x1 x2 x3
    obtain ⟨x1,x2,x3⟩:=ab HX wr (ab qC)
    by_cases aM:k<nE
    ·obtain ⟨g2,Jc,xZ,vv,BG,BJ,n1,n2,n3,rfl,ep,By,e0,e1,e2,e3,r1,r2,r3⟩:=ab K3 k aM
     have HC:=al (fun s':ByteArray=>nt (nm:=s') r1 r2 r3 (ab TD) (ab qC))
     obtain ⟨b1,d1,rfl,-,-⟩:=r1
     obtain ⟨b2,d2,rfl,-,-⟩:=r2
     obtain ⟨b3,d3,rfl,-,-⟩:=r3
     have HQ:Hid (∀w',Sp B V w'→∃s',w'.cell? ⟨g2,k*4,none⟩=some (.string s')∧w'.frozen? ⟨g2,k*4,none⟩=false):=fun w' h=>h.text ep By e0 (fun y hy=>(fT hy).2)
     have q1:=(ab qC).cell ep By e1 (fun y hy=>by have:=(fT hy).1;omega)
     have q2:=(ab qC).cell ep By e2 (fun y hy=>by have:=(fT hy).1;omega)
     have q3:=(ab qC).cell ep By e3 (fun y hy=>by have:=(fT hy).1;omega)
     obtain ⟨s',q0,z0⟩:=ab HQ wr (ab qC)
     have HT:Hid (∀w',Sp B V w'→Sp B V (w'.setCell ⟨g2,k*4,none⟩ (.string ⟨#[115,112,111,105,108,116]⟩))):=fun w' h=>by
      obtain ⟨c',h5,-,-⟩:=h.dt g2 Jc _ ep By
      exact (Sp.put h ⟨_,h5⟩ ep (Mh (by omega))).1
     have i0:(0:Int)≤(k:Int):=zH _
     have i1:(k:Int)<(nE:Int):=by omega
     have bu:=al aM
     clear By ep e0 e1 e2 e3 aM z0
     go_wp2_with fail
     refine (ab HC s').mono ?_
     rintro e' w2 ⟨rfl,gD⟩
     have yU:=al ((ab qC).trans gD)
     clear gD HC q0 q1 q2 q3 qC
     clear x1 x2 x3
     obtain ⟨x1,x2,x3⟩:=ab HX w2 (ab yU)
     obtain ⟨s2,q0,z0⟩:=ab HQ w2 (ab yU)
     have vC:=al (ab HT w2 (ab yU))
     go_wp2
     go_roundg (nE-(k+1))
     case measure=>have:=ab bz;have:=ab bu;omega
     case rel=>exact ⟨k+1,by go_num,rfl,ab bu,ab vC⟩
    ·obtain rfl:k=nE:=by omega
     obtain ⟨YQ,iI⟩:∃x,x=wr:=⟨_,rfl⟩
     subst iI
     clear aM eV bz
     go_wp2_with fail
     refine (ab HM _ (ab qC)).mono ?_
     rintro e' w2 ⟨rfl,gD⟩
     have vC:=al ((ab HV0).trans ((ab qC).trans gD))
     clear gD
     go_wp2
     go_end0
     exact ⟨rfl,ab vC⟩
def Ue (f:Nat):Prop:=∀(W:World) (v:Value) (l:List Ms) (cs:List Value),Rl W v l.length cs→tH W cs l→∀(w0:World),Below W.heap.size W w0→∀deep:Int,0≤deep→deep+f=200→Calls Tryz.prog 11 #[v,.int .i64 deep] w0 (Ge w0 (∀m ∈ l,tL f m))
theorem EM:Ue 0:=by
 intro W v l cs h eo w0 hw deep h0 h1
 obtain rfl:deep=200:=by omega
 have HB:=al (zE w0.heap.size w0)
 obtain ⟨a,c,rfl,hn,-⟩:=h
 clear eo hw h0 h1
 cases l with
 |nil =>
  have HN:Hid (∀m ∈ ([]:List Ms),tL 0 m):=fun m hm=>by simp at hm
  simp only[List.length_nil]
  go_enter Tryz.func11,Tryz.ntmps11
  go_wp2
  go_loopg [5] 1 (fun gk v5 wr=>v5=.int .i64 0∧gk=1∧Hid (wr=w0))
  case atStart=>exact ⟨rfl,rfl,rfl⟩
  case round =>
   obtain ⟨rfl,aW,HW⟩:=hrel
   go_wp2
   go_ret
   have:=ab HW
   subst this
   exact Mj (ab HN) (ab HB)
 |cons m r =>
  have HN:Hid (¬∀x ∈ m::r,tL 0 x):=fun h=>h m (List.mem_cons_self ..)
  have hp:(0:Int)<((m::r).length:Int):=by simp only[List.length_cons];omega
  obtain ⟨n,qS⟩:∃n,(m::r).length=n:=⟨_,rfl⟩
  rw[qS] at hp hn ⊢
  have y9:0<n:=by omega
  clear qS
  go_enter Tryz.func11,Tryz.ntmps11
  go_wp2
  go_loopg [5] 1 (fun gk v5 wr=>v5=.int .i64 0∧gk=1∧Hid (wr=w0))
  case atStart=>exact ⟨rfl,rfl,rfl⟩
  case round =>
   obtain ⟨rfl,aW,HW⟩:=hrel
   go_wp2
   go_ret
   have:=ab HW
   subst this
   exact nu (ab HN) (ab HB)
theorem xS {f:Nat} (ih:Ue f):Ue (f+1):=by
 intro W v l cs h eo w0 hw deep h0 h1
 obtain ⟨a,c,rfl,hn,h3⟩:=h
 have H3:=al h3
 have HE:=al eo
 have HW:=al hw
 have FU:=al (fun W v l cs h eo w0 hw=>ih W v l cs h eo w0 hw (deep+1) (by omega) (by omega))
 have d1:deep<200:=by omega
 clear h3 eo hw ih h1
 go_enter Tryz.func11,Tryz.ntmps11
 go_wp2
 go_loopg [5] l.length (fun gk v5 wr=>∃(i:Nat),v5=.int .i64 (i:Int)∧gk=l.length-i∧i≤l.length∧Hid (∀m ∈ l.take i,tL (f+1) m)∧Hid (Below w0.heap.size w0 wr))
 case atStart=>exact ⟨0,rfl,rfl,by omega,fun m hm=>by simp at hm,zE _ _⟩
 case round =>
  obtain ⟨i,rfl,aW,eV,HT,HB⟩:=hrel
  have bz:=al aW
  clear aW
  by_cases aM:i<l.length
  ·have aT:Below W.heap.size W wr:=(ab HW).trans ((ab HB).mono (ab HW).size)
   obtain ⟨g,o,rfl,hg,hc⟩:=ab H3 (by omega)
   have hl:=List.getElem?_eq_getElem aM
   obtain ⟨t,ht⟩:∃d,l[i]=d:=⟨_,rfl⟩
   rw[ht] at hl
   obtain ⟨M',M9,PI,Na,BG,BJ,xZ,D6,DI,rh,xu,DB,D4,Je,Kb,dV,fX⟩:=(ab HE).at i t hl
   obtain rfl:=fX.is
   have HC:=al (ab FU _ _ _ _ fX.hm fX.eo wr aT)
   obtain ⟨Ba,mD,rfl,-,-⟩:=fX.hm
   have x3:wr.cell? ⟨g,o+i*7+3,none⟩=some (.slice Ba rh.length mD):=(aT.cell (p:=⟨g,o+(i*7+3),none⟩) hg).trans (hc _ _ (by
    have hx:[Value.string xZ,M',M9,.slice Ba rh.length mD,Na,BG,BJ][3]?=some (.slice Ba rh.length mD):=rfl
    rw[←dV,List.getElem?_take,List.getElem?_drop] at hx
    split at hx
    ·exact hx
    ·cases hx))
   have HY:Hid ((∀m ∈ rh,tL f m)→∀m ∈ l.take (i+1),tL (f+1) m):=fun h m hm=>by
    rw[bM hl] at hm
    rcases List.mem_append.1 hm with hm|hm
    ·exact ab HT m hm
    ·obtain rfl:=List.mem_singleton.1 hm
     exact h
   have HN:Hid ((∀m ∈ l,tL (f+1) m)→∀m ∈ rh,tL f m):=fun h=>h _ (List.mem_of_getElem? hl)
   have i0:(0:Int)≤(i:Int):=zH _
   have i1:(i:Int)<(l.length:Int):=by omega
   have bu:=al aM
   clear hc hl ht dV fX aT hg aM
   go_wp2_with fail
   refine (ab HC).mono ?_
   rintro e' w2 ⟨q,rfl,hq,bd⟩
   have Hq:=al hq
   have cS:=al ((ab HB).trans (bd.mono (ab HB).size))
   clear hq bd HC
   cases q with
   |false =>
    have JU:Hid (¬∀m ∈ l,tL (f+1) m):=fun h=>by have:=(ab Hq).2 (ab HN h);cases this
    go_wp2
    go_ret
    exact nu (ab JU) (ab cS)
   |true =>
    have ox:=al (ab HY ((ab Hq).1 (by trivial)))
    go_wp2
    go_roundg (l.length-(i+1))
    case measure=>have:=ab bz;have:=ab bu;omega
    case rel=>exact ⟨i+1,by go_num,rfl,ab bu,ox,cS⟩
  ·obtain rfl:i=l.length:=by omega
   have ox:Hid (∀m ∈ l,tL (f+1) m):=by have:=ab HT;rw[List.take_length] at this;exact this
   go_wp2
   go_ret
   exact Mj (ab ox) (ab HB)
theorem mq:∀f,Ue f
 |0=>EM
 |f+1=>xS (mq f)
theorem mr {f:Nat} (hf:f≤200) {W:World}{v u vi vm ve ui um ue:Value}{F G:Fl}{cm ce Je Kb:List Value} (h:xE W v F vi vm ve cm ce) (h':xE W u G ui um ue Je Kb) (hd:∀m ∈ F.ms,tL f m) (IL:∀m ∈ G.ms,tL f m) (w0:World) (hw:Below W.heap.size W w0) :
  Calls Tryz.prog 10 #[v,u] w0 (Ge w0 (F=G)):=by
 obtain ⟨pk,is,ms,es⟩:=F
 obtain ⟨TJ,NK,Ch,Fx⟩:=G
 obtain ⟨rfl,hi,hm,eo,he,fA⟩:=h
 obtain ⟨rfl,IJ,Wx,NY,WJ,Od⟩:=h'
 simp only at hi hm eo he fA IJ Wx NY WJ Od hd IL ⊢
 have HI:=al (fun w' hb=>iv hi IJ w' hb)
 have HM:=al (fun w' hb=>tZ f W vm um ms Ch cm Je hm eo Wx NY hd IL w' hb 0 (by omega) (by omega))
 have HE:=al (fun w' hb=>ny he fA WJ Od w' hb)
 obtain ⟨ai,ci,rfl,-,-⟩:=hi
 obtain ⟨am,dk,rfl,-,-⟩:=hm
 obtain ⟨ae,dc,rfl,-,-⟩:=he
 obtain ⟨ai',ci',rfl,-,-⟩:=IJ
 obtain ⟨Qo,Qi,rfl,-,-⟩:=Wx
 obtain ⟨Qr,Qj,rfl,-,-⟩:=WJ
 have yT:=al (tR hw #[.string pk,.slice ai is.length ci,.slice am ms.length dk,.slice ae es.length dc] #[.string TJ,.slice ai' NK.length ci',.slice Qo Ch.length Qi,.slice Qr Fx.length Qj] 26)
 have iR:Hid (Below w0.heap.size w0 ((w0.alloc (.cells #[.string pk,.slice ai is.length ci,.slice am ms.length dk,.slice ae es.length dc] 26)).alloc (.cells #[.string TJ,.slice ai' NK.length ci',.slice Qo Ch.length Qi,.slice Qr Fx.length Qj] 26))):=((zE _ _).alloc (zD _) _).alloc (by rw[zJ];omega) _
 have X0:=(ab yT).x
 have Y0:=(ab yT).y
 clear eo fA NY Od hd IL hw hf
 by_cases hp:pk=TJ
 ·subst hp
  have e1:(pk.toList==pk.toList)=true:=by simp
  go_enter Tryz.func10,Tryz.ntmps10
  go_wp2_with fail
  refine (ab HI _ (ab yT).bl).mono ?_
  rintro e' w1 ⟨q1,rfl,uP,aX⟩
  have sF:=al ((ab yT).up aX)
  have cO:=al ((ab iR).trans (aX.mono (ab iR).size))
  have X1:=(ab sF).x
  have Y1:=(ab sF).y
  have MR:=al uP
  clear aX yT iR HI uP X0 Y0
  cases q1 with
  |false =>
   have HN:Hid (¬(⟨pk,is,ms,es⟩:Fl)=⟨pk,NK,Ch,Fx⟩):=fun e=>by have:=(ab MR).2 (by injection e);cases this
   go_wp2
   go_ret
   exact nu (ab HN) (ab cO)
  |true =>
   go_wp2_with fail
   refine (ab HM _ (ab sF).bl).mono ?_
   rintro e' w2 ⟨q2,rfl,gT,bd⟩
   have ox:=al ((ab sF).up bd)
   have cS:=al ((ab cO).trans (bd.mono (ab cO).size))
   have X2:=(ab ox).x
   have Y2:=(ab ox).y
   have Eo:=al gT
   clear bd sF cO HM gT X1 Y1
   cases q2 with
   |false =>
    have HN:Hid (¬(⟨pk,is,ms,es⟩:Fl)=⟨pk,NK,Ch,Fx⟩):=fun e=>by have:=(ab Eo).2 (by injection e);cases this
    go_wp2
    go_ret
    exact nu (ab HN) (ab cS)
   |true =>
    go_wp2_with fail
    refine (ab HE _ (ab ox).bl).mono ?_
    rintro e' w3 ⟨q3,rfl,oy,cz⟩
    have Gg:=al ((ab ox).up cz)
    have eh:=al ((ab cS).trans (cz.mono (ab cS).size))
    have X3:=(ab Gg).x
    have Y3:=(ab Gg).y
    have S3:=al oy
    clear cz ox cS HE oy X2 Y2
    cases q3 with
    |false =>
     have HN:Hid (¬(⟨pk,is,ms,es⟩:Fl)=⟨pk,NK,Ch,Fx⟩):=fun e=>by have:=(ab S3).2 (by injection e);cases this
     go_wp2
     go_ret
     exact nu (ab HN) (ab eh)
    |true =>
     have h1:=(ab MR).1 (by trivial)
     have h2:=(ab Eo).1 (by trivial)
     have h3:=(ab S3).1 (by trivial)
     have HN:Hid ((⟨pk,is,ms,es⟩:Fl)=⟨pk,NK,Ch,Fx⟩):=by show _=_;rw[h1,h2,h3]
     clear h1 h2 h3
     go_wp2
     go_ret
     exact Mj (ab HN) (ab eh)
 ·have e1:=mn hp
  have HN:Hid (¬(⟨pk,is,ms,es⟩:Fl)=⟨TJ,NK,Ch,Fx⟩):=fun e=>hp (by injection e)
  clear hp HI HM HE
  go_enter Tryz.func10,Tryz.ntmps10
  go_wp2
  go_ret
  exact nu (ab HN) (ab iR)
end Go.Proofs.YtichhjfjcinjgaaGreatDoor

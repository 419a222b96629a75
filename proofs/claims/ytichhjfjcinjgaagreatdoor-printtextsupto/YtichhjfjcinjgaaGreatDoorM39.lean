import Derived.Test.YtichhjfjcinjgaaGreatDoorM38
set_option maxHeartbeats 4000000
set_option maxRecDepth 100000
namespace Go.Proofs.YtichhjfjcinjgaaGreatDoor
open Go.RowKit
attribute [local go_sem ↓] Go.wp_at_zero Go.wp_at_succ
theorem xh {j:Nat} (y:Value):¬uJ 26 j y:=by
 rintro (h|h|h|h|h|h)<;>exact absurd h.1 (by decide)
theorem slice_inj {a b:Option Addr}{n m c d:Nat} (h:Value.slice a n c=.slice b m d):a=b∧n=m∧c=d:=by injection h with h1 h2 h3;exact ⟨h1,h2,h3⟩
theorem vR {B:Nat}{w0:World}{v vi vm ve:Value}{F:Fl}{cm ce:List Value} (h:Je (fun g=>B≤g) w0 v F vi vm ve cm ce) {f:Nat} (hd:∀m ∈ F.ms,tg f m) (hB:B≤w0.heap.size) :
  Calls Tryz.prog 13 #[v] w0 fun e w'=>e=.returned (.tuple #[])∧Sp B w0 w':=by
 obtain ⟨pk,is,ms,es⟩:=F
 obtain ⟨a1,c1,e1,m1,-⟩:=h.hi.wr
 obtain ⟨a2,c2,e2,m2,-⟩:=h.hm.wr
 obtain ⟨a3,c3,e3,m3,-⟩:=h.he.wr
 obtain rfl:=h.is
 subst e1 e2 e3
 simp only at m1 m2 m3 hd ⊢
 have kb:=aK w0 (.cells #[.string pk,.slice a1 is.length c1,.slice a2 ms.length c2,.slice a3 es.length c3] 26)
 have hb:Below w0.heap.size w0 (w0.alloc (.cells #[.string pk,.slice a1 is.length c1,.slice a2 ms.length c2,.slice a3 es.length c3] 26)):=(zE _ _).alloc (zD _) _
 obtain ⟨V,hV⟩:∃V,w0.alloc (.cells #[.string pk,.slice a1 is.length c1,.slice a2 ms.length c2,.slice a3 es.length c3] 26)=V:=⟨_,rfl⟩
 rw[hV] at kb hb
 have h:=h.mono (aC hb)
 have S3:=al (Nat.le_trans hB hb.size)
 have HV0:=al (Sp.below hb hB)
 have HX:Hid (∀w',Sp B V w'→w'.cell? ⟨w0.heap.size,1,none⟩=some (.slice a1 is.length c1)∧w'.cell? ⟨w0.heap.size,2,none⟩=some (.slice a2 ms.length c2)∧w'.cell? ⟨w0.heap.size,3,none⟩=some (.slice a3 es.length c3)):=fun w' h=>⟨h.cell hB kb (j:=1) rfl xh,h.cell hB kb (j:=2) rfl xh,h.cell hB kb (j:=3) rfl xh⟩
 have HM:Hid (∀w',Sp B V w'→Calls Tryz.prog 32 #[.slice a2 ms.length c2] w' fun e w2=>e=.returned (.tuple #[])∧Sp B w' w2):=fun w' hs=>by
  obtain ⟨x3,y3,z3⟩:=h.hm.sp (fun _ h=>h) hs
  obtain ⟨l3,p3,q3⟩:=h.ej.sp (fun _ h=>h) hs 0 x3 rfl z3
  have y4:gM (fun g=>B≤g) w' 46 7 (.slice a2 ms.length c2) l3.length x3:=by rw[q3.len];exact y3
  have:=qf f B w' _ l3 x3 y4 p3 (q3.dp f hd) (Nat.le_trans (ab S3) hs.bV.size)
  exact this
 obtain ⟨a1',Lf,e1,-,k1⟩:=h.hi.wr
 obtain ⟨rfl,-,rfl⟩:=slice_inj e1
 obtain ⟨a3',c3',e3,-,k3⟩:=Ip h.he h.fl
 obtain ⟨rfl,-,rfl⟩:=slice_inj e3
 have K1:=al k1
 have K3:=al k3
 have DM:=al (Sp.refl B V)
 obtain ⟨x1,x2,x3⟩:=ab HX V (ab DM)
 obtain ⟨nI,B8⟩:∃n,is.length=n:=⟨_,rfl⟩
 obtain ⟨nM,Dj⟩:∃n,ms.length=n:=⟨_,rfl⟩
 obtain ⟨nE,Pj⟩:∃n,es.length=n:=⟨_,rfl⟩
 rw[B8] at K1 m1 hV HX x1;rw[Dj] at m2 hV HX HM x2;rw[Pj] at K3 m3 hV HX x3
 rw[B8,Dj,Pj]
 clear h hd hB kb hb k1 k3 e1 e3 B8 Dj Pj
 go_enter Tryz.func13,Tryz.ntmps13
 go_wp2
 go_loopg [2] nI (fun gk vq wr=>∃(k:Nat),vq=.int .i64 (k:Int)∧gk=nI-k∧k≤nI∧Hid (Sp B V wr))
 case atStart=>exact ⟨0,rfl,rfl,by omega,ab DM⟩
 case round =>
  obtain ⟨k,rfl,aU,eO,I6⟩:=hrel
  have bz:=al aU
  clear aU DM
  clear x1 x2 x3
  obtain ⟨x1,x2,x3⟩:=ab HX wr (ab I6)
  by_cases aM:k<nI
  ·obtain ⟨g,cur,rfl,hg,hh,hn⟩:=ab K1 (by omega)
   obtain ⟨iH,jV,lz,-⟩:=(ab I6).dj g cur _ hg hh
   obtain ⟨y0,d0,z0⟩:=ec (j:=k) jV (by omega)
   obtain ⟨s0,t0⟩:=Sp.put (ab I6) (⟨_,jV⟩:np wr g 9) hg (j:=k) (y:=.string ⟨#[115,112,111,105,108,116]⟩) (CU _)
   have uO:=al s0
   have i0:(0:Int)≤(k:Int):=zH _
   have i1:(k:Int)<(nI:Int):=by omega
   have bu:=al aM
   clear hh hg hn jV lz aM s0 t0
   go_wp2
   go_roundg (nI-(k+1))
   case measure=>have:=ab bz;have:=ab bu;omega
   case rel=>exact ⟨k+1,by go_num,rfl,ab bu,ab uO⟩
  ·obtain rfl:k=nI:=by omega
   obtain ⟨woa,iv⟩:∃x,x=wr:=⟨_,rfl⟩
   subst iv
   clear aM eO bz
   go_wp2
   go_loopg [3] nE (fun gk vq wr=>∃(k:Nat),vq=.int .i64 (k:Int)∧gk=nE-k∧k≤nE∧Hid (Sp B V wr))
   case atStart=>exact ⟨0,rfl,rfl,by omega,ab I6⟩
   case round =>
    obtain ⟨k,rfl,aU,eO,pV⟩:=hrel
    have bz:=al aU
    clear aU I6
    clear x1 x2 x3
    obtain ⟨x1,x2,x3⟩:=ab HX wr (ab pV)
    by_cases aM:k<nE
    ·obtain ⟨g2,Iu,xw,vv,Ba,Bc,n1,n2,n3,rfl,ed,A1,e0,e1,e2,e3,r1,r2,r3⟩:=ab K3 k aM
     have HC:=al (fun s':ByteArray=>mN (nm:=s') r1 r2 r3 (ab S3) (ab pV))
     obtain ⟨b1,d1,rfl,-,-⟩:=r1
     obtain ⟨b2,d2,rfl,-,-⟩:=r2
     obtain ⟨b3,d3,rfl,-,-⟩:=r3
     have HQ:Hid (∀w',Sp B V w'→∃s',w'.cell? ⟨g2,k*4,none⟩=some (.string s')∧w'.frozen? ⟨g2,k*4,none⟩=false):=fun w' h=>h.text ed A1 e0 (fun y hy=>(fL hy).2)
     have q1:=(ab pV).cell ed A1 e1 (fun y hy=>by have:=(fL hy).1;omega)
     have q2:=(ab pV).cell ed A1 e2 (fun y hy=>by have:=(fL hy).1;omega)
     have q3:=(ab pV).cell ed A1 e3 (fun y hy=>by have:=(fL hy).1;omega)
     obtain ⟨s',q0,z0⟩:=ab HQ wr (ab pV)
     have HT:Hid (∀w',Sp B V w'→Sp B V (w'.setCell ⟨g2,k*4,none⟩ (.string ⟨#[115,112,111,105,108,116]⟩))):=fun w' h=>by
      obtain ⟨c',h5,-,-⟩:=h.dj g2 Iu _ ed A1
      exact (Sp.put h ⟨_,h5⟩ ed (LD (by omega))).1
     have i0:(0:Int)≤(k:Int):=zH _
     have i1:(k:Int)<(nE:Int):=by omega
     have bu:=al aM
     clear A1 ed e0 e1 e2 e3 aM z0
     go_wp2_with fail
     refine (ab HC s').mono ?_
     rintro e' w2 ⟨rfl,gj⟩
     have yn:=al ((ab pV).trans gj)
     clear gj HC q0 q1 q2 q3 pV
     clear x1 x2 x3
     obtain ⟨x1,x2,x3⟩:=ab HX w2 (ab yn)
     obtain ⟨s2,q0,z0⟩:=ab HQ w2 (ab yn)
     have uO:=al (ab HT w2 (ab yn))
     go_wp2
     go_roundg (nE-(k+1))
     case measure=>have:=ab bz;have:=ab bu;omega
     case rel=>exact ⟨k+1,by go_num,rfl,ab bu,ab uO⟩
    ·obtain rfl:k=nE:=by omega
     obtain ⟨Yl,iv⟩:∃x,x=wr:=⟨_,rfl⟩
     subst iv
     clear aM eO bz
     go_wp2_with fail
     refine (ab HM _ (ab pV)).mono ?_
     rintro e' w2 ⟨rfl,gj⟩
     have uO:=al ((ab HV0).trans ((ab pV).trans gj))
     clear gj
     go_wp2
     go_end0
     exact ⟨rfl,ab uO⟩
def TJ (f:Nat):Prop:=∀(W:World) (v:Value) (l:List Ms) (cs:List Value),Rl W v l.length cs→s8 W cs l→∀(w0:World),Below W.heap.size W w0→∀deep:Int,0≤deep→deep+f=200→Calls Tryz.prog 11 #[v,.int .i64 deep] w0 (Me w0 (∀m ∈ l,tg f m))
theorem D6:TJ 0:=by
 intro W v l cs h ej w0 hw deep h0 h1
 obtain rfl:deep=200:=by omega
 have HB:=al (zE w0.heap.size w0)
 obtain ⟨a,c,rfl,hn,-⟩:=h
 clear ej hw h0 h1
 cases l with
 |nil =>
  have HN:Hid (∀m ∈ ([]:List Ms),tg 0 m):=fun m hm=>by simp at hm
  simp only[List.length_nil]
  go_enter Tryz.func11,Tryz.ntmps11
  go_wp2
  go_loopg [5] 1 (fun gk v5 wr=>v5=.int .i64 0∧gk=1∧Hid (wr=w0))
  case atStart=>exact ⟨rfl,rfl,rfl⟩
  case round =>
   obtain ⟨rfl,aU,HW⟩:=hrel
   go_wp2
   go_ret
   have:=ab HW
   subst this
   exact LF (ab HN) (ab HB)
 |cons m r =>
  have HN:Hid (¬∀x ∈ m::r,tg 0 x):=fun h=>h m (List.mem_cons_self ..)
  have hp:(0:Int)<((m::r).length:Int):=by simp only[List.length_cons];omega
  obtain ⟨n,qw⟩:∃n,(m::r).length=n:=⟨_,rfl⟩
  rw[qw] at hp hn ⊢
  have yu:0<n:=by omega
  clear qw
  go_enter Tryz.func11,Tryz.ntmps11
  go_wp2
  go_loopg [5] 1 (fun gk v5 wr=>v5=.int .i64 0∧gk=1∧Hid (wr=w0))
  case atStart=>exact ⟨rfl,rfl,rfl⟩
  case round =>
   obtain ⟨rfl,aU,HW⟩:=hrel
   go_wp2
   go_ret
   have:=ab HW
   subst this
   exact mO (ab HN) (ab HB)
theorem xj {f:Nat} (ih:TJ f):TJ (f+1):=by
 intro W v l cs h ej w0 hw deep h0 h1
 obtain ⟨a,c,rfl,hn,h3⟩:=h
 have H3:=al h3
 have HE:=al ej
 have HW:=al hw
 have Fa:=al (fun W v l cs h ej w0 hw=>ih W v l cs h ej w0 hw (deep+1) (by omega) (by omega))
 have d1:deep<200:=by omega
 clear h3 ej hw ih h1
 go_enter Tryz.func11,Tryz.ntmps11
 go_wp2
 go_loopg [5] l.length (fun gk v5 wr=>∃(i:Nat),v5=.int .i64 (i:Int)∧gk=l.length-i∧i≤l.length∧Hid (∀m ∈ l.take i,tg (f+1) m)∧Hid (Below w0.heap.size w0 wr))
 case atStart=>exact ⟨0,rfl,rfl,by omega,fun m hm=>by simp at hm,zE _ _⟩
 case round =>
  obtain ⟨i,rfl,aU,eO,HT,HB⟩:=hrel
  have bz:=al aU
  clear aU
  by_cases aM:i<l.length
  ·have aS:Below W.heap.size W wr:=(ab HW).trans ((ab HB).mono (ab HW).size)
   obtain ⟨g,o,rfl,hg,hc⟩:=ab H3 (by omega)
   have hl:=List.getElem?_eq_getElem aM
   obtain ⟨t,ht⟩:∃d,l[i]=d:=⟨_,rfl⟩
   rw[ht] at hl
   obtain ⟨My,Mx,OY,Mz,Ba,Bc,xw,Dt,C8,qH,wM,CZ,Dr,Ix,Jv,dQ,fO⟩:=(ab HE).at i t hl
   obtain rfl:=fO.is
   have HC:=al (ab Fa _ _ _ _ fO.hm fO.ej wr aS)
   obtain ⟨AE,mc,rfl,-,-⟩:=fO.hm
   have x3:wr.cell? ⟨g,o+i*7+3,none⟩=some (.slice AE qH.length mc):=(aS.cell (p:=⟨g,o+(i*7+3),none⟩) hg).trans (hc _ _ (by
    have hx:[Value.string xw,My,Mx,.slice AE qH.length mc,Mz,Ba,Bc][3]?=some (.slice AE qH.length mc):=rfl
    rw[←dQ,List.getElem?_take,List.getElem?_drop] at hx
    split at hx
    ·exact hx
    ·cases hx))
   have HY:Hid ((∀m ∈ qH,tg f m)→∀m ∈ l.take (i+1),tg (f+1) m):=fun h m hm=>by
    rw[bL hl] at hm
    rcases List.mem_append.1 hm with hm|hm
    ·exact ab HT m hm
    ·obtain rfl:=List.mem_singleton.1 hm
     exact h
   have HN:Hid ((∀m ∈ l,tg (f+1) m)→∀m ∈ qH,tg f m):=fun h=>h _ (List.mem_of_getElem? hl)
   have i0:(0:Int)≤(i:Int):=zH _
   have i1:(i:Int)<(l.length:Int):=by omega
   have bu:=al aM
   clear hc hl ht dQ fO aS hg aM
   go_wp2_with fail
   refine (ab HC).mono ?_
   rintro e' w2 ⟨q,rfl,hq,bd⟩
   have Hq:=al hq
   have cP:=al ((ab HB).trans (bd.mono (ab HB).size))
   clear hq bd HC
   cases q with
   |false =>
    have I8:Hid (¬∀m ∈ l,tg (f+1) m):=fun h=>by have:=(ab Hq).2 (ab HN h);cases this
    go_wp2
    go_ret
    exact mO (ab I8) (ab cP)
   |true =>
    have nN:=al (ab HY ((ab Hq).1 (by trivial)))
    go_wp2
    go_roundg (l.length-(i+1))
    case measure=>have:=ab bz;have:=ab bu;omega
    case rel=>exact ⟨i+1,by go_num,rfl,ab bu,nN,cP⟩
  ·obtain rfl:i=l.length:=by omega
   have nN:Hid (∀m ∈ l,tg (f+1) m):=by have:=ab HT;rw[List.take_length] at this;exact this
   go_wp2
   go_ret
   exact LF (ab nN) (ab HB)
theorem qh:∀f,TJ f
 |0=>D6
 |f+1=>xj (qh f)
theorem xk {f:Nat} (hf:f≤200) {W:World}{v u vi vm ve ui um ue:Value}{F G:Fl}{cm ce Ix Jv:List Value} (h:A6 W v F vi vm ve cm ce) (h':A6 W u G ui um ue Ix Jv) (hd:∀m ∈ F.ms,tg f m) (G8:∀m ∈ G.ms,tg f m) (w0:World) (hw:Below W.heap.size W w0) :
  Calls Tryz.prog 10 #[v,u] w0 (Me w0 (F=G)):=by
 obtain ⟨pk,is,ms,es⟩:=F
 obtain ⟨S9,M8,BK,EO⟩:=G
 obtain ⟨rfl,hi,hm,ej,he,fl⟩:=h
 obtain ⟨rfl,G6,VW,Nn,Wa,NC⟩:=h'
 simp only at hi hm ej he fl G6 VW Nn Wa NC hd G8 ⊢
 have HI:=al (fun w' hb=>hZ hi G6 w' hb)
 have HM:=al (fun w' hb=>tx f W vm um ms BK cm Ix hm ej VW Nn hd G8 w' hb 0 (by omega) (by omega))
 have HE:=al (fun w' hb=>mR he fl Wa NC w' hb)
 obtain ⟨ai,ci,rfl,-,-⟩:=hi
 obtain ⟨am,dh,rfl,-,-⟩:=hm
 obtain ⟨ae,dc,rfl,-,-⟩:=he
 obtain ⟨Z0,ZX,rfl,-,-⟩:=G6
 obtain ⟨PL,PF,rfl,-,-⟩:=VW
 obtain ⟨PO,PG,rfl,-,-⟩:=Wa
 have ym:=al (tn hw #[.string pk,.slice ai is.length ci,.slice am ms.length dh,.slice ae es.length dc] #[.string S9,.slice Z0 M8.length ZX,.slice PL BK.length PF,.slice PO EO.length PG] 26)
 have iE:Hid (Below w0.heap.size w0 ((w0.alloc (.cells #[.string pk,.slice ai is.length ci,.slice am ms.length dh,.slice ae es.length dc] 26)).alloc (.cells #[.string S9,.slice Z0 M8.length ZX,.slice PL BK.length PF,.slice PO EO.length PG] 26))):=((zE _ _).alloc (zD _) _).alloc (by rw[zJ];omega) _
 have X0:=(ab ym).x
 have Y0:=(ab ym).y
 clear ej fl Nn NC hd G8 hw hf
 by_cases hp:pk=S9
 ·subst hp
  have e1:(pk.toList==pk.toList)=true:=by simp
  go_enter Tryz.func10,Tryz.ntmps10
  go_wp2_with fail
  refine (ab HI _ (ab ym).bl).mono ?_
  rintro e' w1 ⟨q1,rfl,tU,aY⟩
  have uW:=al ((ab ym).up aY)
  have cM:=al ((ab iE).trans (aY.mono (ab iE).size))
  have X1:=(ab uW).x
  have Y1:=(ab uW).y
  have Mg:=al tU
  clear aY ym iE HI tU X0 Y0
  cases q1 with
  |false =>
   have HN:Hid (¬(⟨pk,is,ms,es⟩:Fl)=⟨pk,M8,BK,EO⟩):=fun e=>by have:=(ab Mg).2 (by injection e);cases this
   go_wp2
   go_ret
   exact mO (ab HN) (ab cM)
  |true =>
   go_wp2_with fail
   refine (ab HM _ (ab uW).bl).mono ?_
   rintro e' w2 ⟨q2,rfl,kj,bd⟩
   have nN:=al ((ab uW).up bd)
   have cP:=al ((ab cM).trans (bd.mono (ab cM).size))
   have X2:=(ab nN).x
   have Y2:=(ab nN).y
   have DK:=al kj
   clear bd uW cM HM kj X1 Y1
   cases q2 with
   |false =>
    have HN:Hid (¬(⟨pk,is,ms,es⟩:Fl)=⟨pk,M8,BK,EO⟩):=fun e=>by have:=(ab DK).2 (by injection e);cases this
    go_wp2
    go_ret
    exact mO (ab HN) (ab cP)
   |true =>
    go_wp2_with fail
    refine (ab HE _ (ab nN).bl).mono ?_
    rintro e' w3 ⟨q3,rfl,nO,cC⟩
    have Fz:=al ((ab nN).up cC)
    have dX:=al ((ab cP).trans (cC.mono (ab cP).size))
    have X3:=(ab Fz).x
    have Y3:=(ab Fz).y
    have Sr:=al nO
    clear cC nN cP HE nO X2 Y2
    cases q3 with
    |false =>
     have HN:Hid (¬(⟨pk,is,ms,es⟩:Fl)=⟨pk,M8,BK,EO⟩):=fun e=>by have:=(ab Sr).2 (by injection e);cases this
     go_wp2
     go_ret
     exact mO (ab HN) (ab dX)
    |true =>
     have h1:=(ab Mg).1 (by trivial)
     have h2:=(ab DK).1 (by trivial)
     have h3:=(ab Sr).1 (by trivial)
     have HN:Hid ((⟨pk,is,ms,es⟩:Fl)=⟨pk,M8,BK,EO⟩):=by show _=_;rw[h1,h2,h3]
     clear h1 h2 h3
     go_wp2
     go_ret
     exact LF (ab HN) (ab dX)
 ·have e1:=lT hp
  have HN:Hid (¬(⟨pk,is,ms,es⟩:Fl)=⟨S9,M8,BK,EO⟩):=fun e=>hp (by injection e)
  clear hp HI HM HE
  go_enter Tryz.func10,Tryz.ntmps10
  go_wp2
  go_ret
  exact mO (ab HN) (ab iE)
end Go.Proofs.YtichhjfjcinjgaaGreatDoor

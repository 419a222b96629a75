import Derived.Test.YtichhjfjcinjgaaGreatDoorM38
set_option maxHeartbeats 4000000
set_option maxRecDepth 100000
namespace Go.Proofs.YtichhjfjcinjgaaGreatDoor
open Go.RowKit
attribute [local go_sem ↓] Go.wp_at_zero Go.wp_at_succ
theorem xj {j:Nat} (y:Value):¬uM 26 j y:=by
 rintro (h|h|h|h|h|h)<;>exact absurd h.1 (by decide)
theorem slice_inj {a b:Option Addr}{n m c d:Nat} (h:Value.slice a n c=.slice b m d):a=b∧n=m∧c=d:=by injection h with h1 h2 h3;exact ⟨h1,h2,h3⟩
theorem vY {B:Nat}{w0:World}{v vi vm ve:Value}{F:Fl}{cm ce:List Value} (h:Js (fun g=>B≤g) w0 v F vi vm ve cm ce) {f:Nat} (hd:∀m ∈ F.ms,tl f m) (hB:B≤w0.heap.size) :
  Calls Tryz.prog 13 #[v] w0 fun e w'=>e=.returned (.tuple #[])∧Sp B w0 w':=by
 obtain ⟨pk,is,ms,es⟩:=F
 obtain ⟨a1,c1,e1,m1,-⟩:=h.hi.wr
 obtain ⟨a2,c2,e2,m2,-⟩:=h.hm.wr
 obtain ⟨a3,c3,e3,m3,-⟩:=h.he.wr
 obtain rfl:=h.is
 subst e1 e2 e3
 simp only at m1 m2 m3 hd ⊢
 have kb:=aK w0 (.cells #[.string pk,.slice a1 is.length c1,.slice a2 ms.length c2,.slice a3 es.length c3] 26)
 have hb:Below w0.heap.size w0 (w0.alloc (.cells #[.string pk,.slice a1 is.length c1,.slice a2 ms.length c2,.slice a3 es.length c3] 26)):=(zE _ _).alloc (zD _) _
 obtain ⟨V,hV⟩:∃V,w0.alloc (.cells #[.string pk,.slice a1 is.length c1,.slice a2 ms.length c2,.slice a3 es.length c3] 26)=V:=⟨_,rfl⟩
 rw[hV] at kb hb
 have h:=h.mono (aD hb)
 have Td:=al (Nat.le_trans hB hb.size)
 have HV0:=al (Sp.below hb hB)
 have HX:Hid (∀w',Sp B V w'→w'.cell? ⟨w0.heap.size,1,none⟩=some (.slice a1 is.length c1)∧w'.cell? ⟨w0.heap.size,2,none⟩=some (.slice a2 ms.length c2)∧w'.cell? ⟨w0.heap.size,3,none⟩=some (.slice a3 es.length c3)):=fun w' h=>⟨h.cell hB kb (j:=1) rfl xj,h.cell hB kb (j:=2) rfl xj,h.cell hB kb (j:=3) rfl xj⟩
 have HM:Hid (∀w',Sp B V w'→Calls Tryz.prog 32 #[.slice a2 ms.length c2] w' fun e w2=>e=.returned (.tuple #[])∧Sp B w' w2):=fun w' hs=>by
  obtain ⟨x3,y3,z3⟩:=h.hm.sp (fun _ h=>h) hs
  obtain ⟨l3,p3,q3⟩:=h.et.sp (fun _ h=>h) hs 0 x3 rfl z3
  have y4:gO (fun g=>B≤g) w' 46 7 (.slice a2 ms.length c2) l3.length x3:=by rw[q3.len];exact y3
  have:=qj f B w' _ l3 x3 y4 p3 (q3.dp f hd) (Nat.le_trans (ab Td) hs.bW.size)
  exact this
 obtain ⟨a1',Lo,e1,-,k1⟩:=h.hi.wr
 obtain ⟨rfl,-,rfl⟩:=slice_inj e1
 obtain ⟨a3',c3',e3,-,k3⟩:=IC h.he h.fv
 obtain ⟨rfl,-,rfl⟩:=slice_inj e3
 have K1:=al k1
 have K3:=al k3
 have DW:=al (Sp.refl B V)
 obtain ⟨x1,x2,x3⟩:=ab HX V (ab DW)
 obtain ⟨nI,Cg⟩:∃n,is.length=n:=⟨_,rfl⟩
 obtain ⟨nM,Du⟩:∃n,ms.length=n:=⟨_,rfl⟩
 obtain ⟨nE,Pz⟩:∃n,es.length=n:=⟨_,rfl⟩
 rw[Cg] at K1 m1 hV HX x1;rw[Du] at m2 hV HX HM x2;rw[Pz] at K3 m3 hV HX x3
 rw[Cg,Du,Pz]
 clear h hd hB kb hb k1 k3 e1 e3 Cg Du Pz
 go_enter Tryz.func13,Tryz.ntmps13
 go_wp2
 go_loopg [2] nI (fun gk vq wr=>∃(k:Nat),vq=.int .i64 (k:Int)∧gk=nI-k∧k≤nI∧Hid (Sp B V wr))
 case atStart=>exact ⟨0,rfl,rfl,by omega,ab DW⟩
 case round =>
  obtain ⟨k,rfl,aU,eS,Jj⟩:=hrel
  have bz:=al aU
  clear aU DW
  clear x1 x2 x3
  obtain ⟨x1,x2,x3⟩:=ab HX wr (ab Jj)
  by_cases aM:k<nI
  ·obtain ⟨g,cur,rfl,hg,hh,hn⟩:=ab K1 (by omega)
   obtain ⟨iN,j4,kI,-⟩:=(ab Jj).dq g cur _ hg hh
   obtain ⟨y0,d0,z0⟩:=eh (j:=k) j4 (by omega)
   obtain ⟨s0,t0⟩:=Sp.put (ab Jj) (⟨_,j4⟩:nt wr g 9) hg (j:=k) (y:=.string ⟨#[115,112,111,105,108,116]⟩) (C7 _)
   have uR:=al s0
   have i0:(0:Int)≤(k:Int):=zH _
   have i1:(k:Int)<(nI:Int):=by omega
   have bu:=al aM
   clear hh hg hn j4 kI aM s0 t0
   go_wp2
   go_roundg (nI-(k+1))
   case measure=>have:=ab bz;have:=ab bu;omega
   case rel=>exact ⟨k+1,by go_num,rfl,ab bu,ab uR⟩
  ·obtain rfl:k=nI:=by omega
   obtain ⟨woa,iA⟩:∃x,x=wr:=⟨_,rfl⟩
   subst iA
   clear aM eS bz
   go_wp2
   go_loopg [3] nE (fun gk vq wr=>∃(k:Nat),vq=.int .i64 (k:Int)∧gk=nE-k∧k≤nE∧Hid (Sp B V wr))
   case atStart=>exact ⟨0,rfl,rfl,by omega,ab Jj⟩
   case round =>
    obtain ⟨k,rfl,aU,eS,pY⟩:=hrel
    have bz:=al aU
    clear aU Jj
    clear x1 x2 x3
    obtain ⟨x1,x2,x3⟩:=ab HX wr (ab pY)
    by_cases aM:k<nE
    ·obtain ⟨g2,IG,xy,vv,Bg,Bj,n1,n2,n3,rfl,ei,A9,e0,e1,e2,e3,r1,r2,r3⟩:=ab K3 k aM
     have HC:=al (fun s':ByteArray=>mP (nm:=s') r1 r2 r3 (ab Td) (ab pY))
     obtain ⟨b1,d1,rfl,-,-⟩:=r1
     obtain ⟨b2,d2,rfl,-,-⟩:=r2
     obtain ⟨b3,d3,rfl,-,-⟩:=r3
     have HQ:Hid (∀w',Sp B V w'→∃s',w'.cell? ⟨g2,k*4,none⟩=some (.string s')∧w'.frozen? ⟨g2,k*4,none⟩=false):=fun w' h=>h.text ei A9 e0 (fun y hy=>(fO hy).2)
     have q1:=(ab pY).cell ei A9 e1 (fun y hy=>by have:=(fO hy).1;omega)
     have q2:=(ab pY).cell ei A9 e2 (fun y hy=>by have:=(fO hy).1;omega)
     have q3:=(ab pY).cell ei A9 e3 (fun y hy=>by have:=(fO hy).1;omega)
     obtain ⟨s',q0,z0⟩:=ab HQ wr (ab pY)
     have HT:Hid (∀w',Sp B V w'→Sp B V (w'.setCell ⟨g2,k*4,none⟩ (.string ⟨#[115,112,111,105,108,116]⟩))):=fun w' h=>by
      obtain ⟨c',h5,-,-⟩:=h.dq g2 IG _ ei A9
      exact (Sp.put h ⟨_,h5⟩ ei (LN (by omega))).1
     have i0:(0:Int)≤(k:Int):=zH _
     have i1:(k:Int)<(nE:Int):=by omega
     have bu:=al aM
     clear A9 ei e0 e1 e2 e3 aM z0
     go_wp2_with fail
     refine (ab HC s').mono ?_
     rintro e' w2 ⟨rfl,gp⟩
     have yq:=al ((ab pY).trans gp)
     clear gp HC q0 q1 q2 q3 pY
     clear x1 x2 x3
     obtain ⟨x1,x2,x3⟩:=ab HX w2 (ab yq)
     obtain ⟨s2,q0,z0⟩:=ab HQ w2 (ab yq)
     have uR:=al (ab HT w2 (ab yq))
     go_wp2
     go_roundg (nE-(k+1))
     case measure=>have:=ab bz;have:=ab bu;omega
     case rel=>exact ⟨k+1,by go_num,rfl,ab bu,ab uR⟩
    ·obtain rfl:k=nE:=by omega
     obtain ⟨Yq,iA⟩:∃x,x=wr:=⟨_,rfl⟩
     subst iA
     clear aM eS bz
     go_wp2_with fail
     refine (ab HM _ (ab pY)).mono ?_
     rintro e' w2 ⟨rfl,gp⟩
     have uR:=al ((ab HV0).trans ((ab pY).trans gp))
     clear gp
     go_wp2
     go_end0
     exact ⟨rfl,ab uR⟩
def TP (f:Nat):Prop:=∀(W:World) (v:Value) (l:List Ms) (cs:List Value),Rl W v l.length cs→tf W cs l→∀(w0:World),Below W.heap.size W w0→∀deep:Int,0≤deep→deep+f=200→Calls Tryz.prog 11 #[v,.int .i64 deep] w0 (FI w0 (∀m ∈ l,tl f m))
theorem Ef:TP 0:=by
 intro W v l cs h et w0 hw deep h0 h1
 obtain rfl:deep=200:=by omega
 have HB:=al (zE w0.heap.size w0)
 obtain ⟨a,c,rfl,hn,-⟩:=h
 clear et hw h0 h1
 cases l with
 |nil =>
  have HN:Hid (∀m ∈ ([]:List Ms),tl 0 m):=fun m hm=>by simp at hm
  simp only[List.length_nil]
  go_enter Tryz.func11,Tryz.ntmps11
  go_wp2
  go_loopg [5] 1 (fun gk v5 wr=>v5=.int .i64 0∧gk=1∧Hid (wr=w0))
  case atStart=>exact ⟨rfl,rfl,rfl⟩
  case round =>
   obtain ⟨rfl,aU,HW⟩:=hrel
   go_wp2
   go_ret
   have:=ab HW
   subst this
   exact LO (ab HN) (ab HB)
 |cons m r =>
  have HN:Hid (¬∀x ∈ m::r,tl 0 x):=fun h=>h m (List.mem_cons_self ..)
  have hp:(0:Int)<((m::r).length:Int):=by simp only[List.length_cons];omega
  obtain ⟨n,qA⟩:∃n,(m::r).length=n:=⟨_,rfl⟩
  rw[qA] at hp hn ⊢
  have yy:0<n:=by omega
  clear qA
  go_enter Tryz.func11,Tryz.ntmps11
  go_wp2
  go_loopg [5] 1 (fun gk v5 wr=>v5=.int .i64 0∧gk=1∧Hid (wr=w0))
  case atStart=>exact ⟨rfl,rfl,rfl⟩
  case round =>
   obtain ⟨rfl,aU,HW⟩:=hrel
   go_wp2
   go_ret
   have:=ab HW
   subst this
   exact mQ (ab HN) (ab HB)
theorem xl {f:Nat} (ih:TP f):TP (f+1):=by
 intro W v l cs h et w0 hw deep h0 h1
 obtain ⟨a,c,rfl,hn,h3⟩:=h
 have H3:=al h3
 have HE:=al et
 have HW:=al hw
 have Fm:=al (fun W v l cs h et w0 hw=>ih W v l cs h et w0 hw (deep+1) (by omega) (by omega))
 have d1:deep<200:=by omega
 clear h3 et hw ih h1
 go_enter Tryz.func11,Tryz.ntmps11
 go_wp2
 go_loopg [5] l.length (fun gk v5 wr=>∃(i:Nat),v5=.int .i64 (i:Int)∧gk=l.length-i∧i≤l.length∧Hid (∀m ∈ l.take i,tl (f+1) m)∧Hid (Below w0.heap.size w0 wr))
 case atStart=>exact ⟨0,rfl,rfl,by omega,fun m hm=>by simp at hm,zE _ _⟩
 case round =>
  obtain ⟨i,rfl,aU,eS,HT,HB⟩:=hrel
  have bz:=al aU
  clear aU
  by_cases aM:i<l.length
  ·have aS:Below W.heap.size W wr:=(ab HW).trans ((ab HB).mono (ab HW).size)
   obtain ⟨g,o,rfl,hg,hc⟩:=ab H3 (by omega)
   have hl:=List.getElem?_eq_getElem aM
   obtain ⟨t,ht⟩:∃d,l[i]=d:=⟨_,rfl⟩
   rw[ht] at hl
   obtain ⟨MJ,MI,Pb,MK,Bg,Bj,xy,DD,Dh,qK,wP,Da,DB,IJ,JD,dU,fR⟩:=(ab HE).at i t hl
   obtain rfl:=fR.is
   have HC:=al (ab Fm _ _ _ _ fR.hm fR.et wr aS)
   obtain ⟨AM,mg,rfl,-,-⟩:=fR.hm
   have x3:wr.cell? ⟨g,o+i*7+3,none⟩=some (.slice AM qK.length mg):=(aS.cell (p:=⟨g,o+(i*7+3),none⟩) hg).trans (hc _ _ (by
    have hx:[Value.string xy,MJ,MI,.slice AM qK.length mg,MK,Bg,Bj][3]?=some (.slice AM qK.length mg):=rfl
    rw[←dU,List.getElem?_take,List.getElem?_drop] at hx
    split at hx
    ·exact hx
    ·cases hx))
   have HY:Hid ((∀m ∈ qK,tl f m)→∀m ∈ l.take (i+1),tl (f+1) m):=fun h m hm=>by
    rw[bL hl] at hm
    rcases List.mem_append.1 hm with hm|hm
    ·exact ab HT m hm
    ·obtain rfl:=List.mem_singleton.1 hm
     exact h
   have HN:Hid ((∀m ∈ l,tl (f+1) m)→∀m ∈ qK,tl f m):=fun h=>h _ (List.mem_of_getElem? hl)
   have i0:(0:Int)≤(i:Int):=zH _
   have i1:(i:Int)<(l.length:Int):=by omega
   have bu:=al aM
   clear hc hl ht dU fR aS hg aM
   go_wp2_with fail
   refine (ab HC).mono ?_
   rintro e' w2 ⟨q,rfl,hq,bd⟩
   have Hq:=al hq
   have cR:=al ((ab HB).trans (bd.mono (ab HB).size))
   clear hq bd HC
   cases q with
   |false =>
    have Jl:Hid (¬∀m ∈ l,tl (f+1) m):=fun h=>by have:=(ab Hq).2 (ab HN h);cases this
    go_wp2
    go_ret
    exact mQ (ab Jl) (ab cR)
   |true =>
    have nP:=al (ab HY ((ab Hq).1 (by trivial)))
    go_wp2
    go_roundg (l.length-(i+1))
    case measure=>have:=ab bz;have:=ab bu;omega
    case rel=>exact ⟨i+1,by go_num,rfl,ab bu,nP,cR⟩
  ·obtain rfl:i=l.length:=by omega
   have nP:Hid (∀m ∈ l,tl (f+1) m):=by have:=ab HT;rw[List.take_length] at this;exact this
   go_wp2
   go_ret
   exact LO (ab nP) (ab HB)
theorem ql:∀f,TP f
 |0=>Ef
 |f+1=>xl (ql f)
theorem xq {f:Nat} (hf:f≤200) {W:World}{v u vi vm ve ui um ue:Value}{F G:Fl}{cm ce IJ JD:List Value} (h:yH W v F vi vm ve cm ce) (h':yH W u G ui um ue IJ JD) (hd:∀m ∈ F.ms,tl f m) (Ic:∀m ∈ G.ms,tl f m) (w0:World) (hw:Below W.heap.size W w0) :
  Calls Tryz.prog 10 #[v,u] w0 (FI w0 (F=G)):=by
 obtain ⟨pk,is,ms,es⟩:=F
 obtain ⟨Tj,Nj,BP,EZ⟩:=G
 obtain ⟨rfl,hi,hm,et,he,fv⟩:=h
 obtain ⟨rfl,Ia,V2,Nz,We,NO⟩:=h'
 simp only at hi hm et he fv Ia V2 Nz We NO hd Ic ⊢
 have HI:=al (fun w' hb=>ic hi Ia w' hb)
 have HM:=al (fun w' hb=>tB f W vm um ms BP cm IJ hm et V2 Nz hd Ic w' hb 0 (by omega) (by omega))
 have HE:=al (fun w' hb=>mT he fv We NO w' hb)
 obtain ⟨ai,ci,rfl,-,-⟩:=hi
 obtain ⟨am,dh,rfl,-,-⟩:=hm
 obtain ⟨ae,da,rfl,-,-⟩:=he
 obtain ⟨Z6,Z3,rfl,-,-⟩:=Ia
 obtain ⟨PZ,PS,rfl,-,-⟩:=V2
 obtain ⟨P2,PT,rfl,-,-⟩:=We
 have yp:=al (tr hw #[.string pk,.slice ai is.length ci,.slice am ms.length dh,.slice ae es.length da] #[.string Tj,.slice Z6 Nj.length Z3,.slice PZ BP.length PS,.slice P2 EZ.length PT] 26)
 have iK:Hid (Below w0.heap.size w0 ((w0.alloc (.cells #[.string pk,.slice ai is.length ci,.slice am ms.length dh,.slice ae es.length da] 26)).alloc (.cells #[.string Tj,.slice Z6 Nj.length Z3,.slice PZ BP.length PS,.slice P2 EZ.length PT] 26))):=((zE _ _).alloc (zD _) _).alloc (by rw[zJ];omega) _
 have X0:=(ab yp).x
 have Y0:=(ab yp).y
 clear et fv Nz NO hd Ic hw hf
 by_cases hp:pk=Tj
 ·subst hp
  have e1:(pk.toList==pk.toList)=true:=by simp
  go_enter Tryz.func10,Tryz.ntmps10
  go_wp2_with fail
  refine (ab HI _ (ab yp).bl).mono ?_
  rintro e' w1 ⟨q1,rfl,tX,aW⟩
  have vb:=al ((ab yp).up aW)
  have cN:=al ((ab iK).trans (aW.mono (ab iK).size))
  have X1:=(ab vb).x
  have Y1:=(ab vb).y
  have Mt:=al tX
  clear aW yp iK HI tX X0 Y0
  cases q1 with
  |false =>
   have HN:Hid (¬(⟨pk,is,ms,es⟩:Fl)=⟨pk,Nj,BP,EZ⟩):=fun e=>by have:=(ab Mt).2 (by injection e);cases this
   go_wp2
   go_ret
   exact mQ (ab HN) (ab cN)
  |true =>
   go_wp2_with fail
   refine (ab HM _ (ab vb).bl).mono ?_
   rintro e' w2 ⟨q2,rfl,jZ,bd⟩
   have nP:=al ((ab vb).up bd)
   have cR:=al ((ab cN).trans (bd.mono (ab cN).size))
   have X2:=(ab nP).x
   have Y2:=(ab nP).y
   have DU:=al jZ
   clear bd vb cN HM jZ X1 Y1
   cases q2 with
   |false =>
    have HN:Hid (¬(⟨pk,is,ms,es⟩:Fl)=⟨pk,Nj,BP,EZ⟩):=fun e=>by have:=(ab DU).2 (by injection e);cases this
    go_wp2
    go_ret
    exact mQ (ab HN) (ab cR)
   |true =>
    go_wp2_with fail
    refine (ab HE _ (ab nP).bl).mono ?_
    rintro e' w3 ⟨q3,rfl,nQ,cE⟩
    have FK:=al ((ab nP).up cE)
    have ed:=al ((ab cR).trans (cE.mono (ab cR).size))
    have X3:=(ab FK).x
    have Y3:=(ab FK).y
    have SC:=al nQ
    clear cE nP cR HE nQ X2 Y2
    cases q3 with
    |false =>
     have HN:Hid (¬(⟨pk,is,ms,es⟩:Fl)=⟨pk,Nj,BP,EZ⟩):=fun e=>by have:=(ab SC).2 (by injection e);cases this
     go_wp2
     go_ret
     exact mQ (ab HN) (ab ed)
    |true =>
     have h1:=(ab Mt).1 (by trivial)
     have h2:=(ab DU).1 (by trivial)
     have h3:=(ab SC).1 (by trivial)
     have HN:Hid ((⟨pk,is,ms,es⟩:Fl)=⟨pk,Nj,BP,EZ⟩):=by show _=_;rw[h1,h2,h3]
     clear h1 h2 h3
     go_wp2
     go_ret
     exact LO (ab HN) (ab ed)
 ·have e1:=lU hp
  have HN:Hid (¬(⟨pk,is,ms,es⟩:Fl)=⟨Tj,Nj,BP,EZ⟩):=fun e=>hp (by injection e)
  clear hp HI HM HE
  go_enter Tryz.func10,Tryz.ntmps10
  go_wp2
  go_ret
  exact mQ (ab HN) (ab iK)
end Go.Proofs.YtichhjfjcinjgaaGreatDoor

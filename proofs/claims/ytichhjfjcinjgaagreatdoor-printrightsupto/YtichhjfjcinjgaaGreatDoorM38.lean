import Derived.Test.YtichhjfjcinjgaaGreatDoorYEa
set_option maxHeartbeats 8000000
set_option maxRecDepth 100000
namespace Go.Proofs.YtichhjfjcinjgaaGreatDoor
open Go.RowKit
attribute [local go_sem ↓] Go.wp_at_zero Go.wp_at_succ
def O3 (B:Nat) (w:World) (e size n:Nat) (a:Option Addr):Prop:=0<n→∃g cur,a=some ⟨g,0,none⟩∧B≤g∧w.heap[g]?=some (.cells cur e (0,0))∧n*size≤cur.size
def Wr (B:Nat) (w:World) (e size:Nat) (v:Value) (n:Nat):Prop:=∃a c,v=.slice a n c∧n≤140737488355328∧O3 B w e size n a
theorem O3.up {B:Nat}{w w':World}{e size n:Nat}{a:Option Addr} (h:O3 B w e size n a) (hs:Sp B w w'):O3 B w' e size n a:=fun hn=>by
 obtain ⟨g,cur,h1,h2,h3,h4⟩:=h hn
 obtain ⟨c',h5,h6,-⟩:=hs.dt g cur e h2 h3
 exact ⟨g,c',h1,h2,h5,by rw[h6];exact h4⟩
theorem Wr.up {B:Nat}{w w':World}{e size n:Nat}{v:Value} (h:Wr B w e size v n) (hs:Sp B w w'):Wr B w' e size v n:=by
 obtain ⟨a,c,h1,h2,h3⟩:=h
 exact ⟨a,c,h1,h2,h3.up hs⟩
theorem gU.wr {B:Nat}{w:World}{e size n:Nat}{v:Value}{xs:List Value} (h:gU (fun g=>B≤g) w e size v n xs):Wr B w e size v n:=by
 obtain ⟨h1,h0,⟨rfl,rfl⟩|⟨g,cap,cur,rfl,h2,h3,h4,h5,h6,h7⟩⟩:=h
 ·exact ⟨none,0,rfl,h0,fun h=>absurd h (by omega)⟩
 ·exact ⟨_,cap,rfl,h0,fun _=>⟨g,cur,rfl,h2,h3,by rw[h6];exact Nat.mul_le_mul_right _ h4⟩⟩
def nR (w:World) (g t:Nat):Prop:=∃cs,w.heap[g]?=some (.cells cs t (0,0))
theorem Sp.put {B:Nat}{V w:World}{g t j:Nat}{y:Value} (h:Sp B V w) (ht:nR w g t) (hg:B≤g) (hy:vx t j y):Sp B V (w.setCell ⟨g,j,none⟩ y)∧nR (w.setCell ⟨g,j,none⟩ y) g t:=by
 obtain ⟨cs,hh⟩:=ht
 exact ⟨h.trans (Sp.set hh hg hy),_,(bh hh y).1⟩
theorem ej {w:World}{g t j:Nat}{cs:Array Value} (hh:w.heap[g]?=some (.cells cs t (0,0))) (hj:j<cs.size):∃y,w.cell? ⟨g,j,none⟩=some y∧w.frozen? ⟨g,j,none⟩=false:=by
 refine ⟨cs[j],?_,by simp[World.frozen?,hh]⟩
 rw[cell_of_row _ _ _ _ _ _ hh]
 exact Array.getElem?_eq_getElem hj
theorem Sp.cell {B:Nat}{w w':World} (h:Sp B w w') {g t j:Nat}{cs:Array Value}{x:Value} (hg:B≤g) (hh:w.heap[g]?=some (.cells cs t (0,0))) (hx:cs[j]?=some x) (hn:∀y,¬vx t j y):w'.cell? ⟨g,j,none⟩=some x:=by
 obtain ⟨c',h5,h6,h7⟩:=h.dt g cs t hg hh
 rw[cell_of_row _ _ _ _ _ _ h5]
 rcases h7 j x hx with e|⟨y,-,hy⟩
 ·exact e
 ·exact absurd hy (hn y)
theorem Sp.text {B:Nat}{w w':World} (h:Sp B w w') {g t j:Nat}{cs:Array Value}{s:ByteArray} (hg:B≤g) (hh:w.heap[g]?=some (.cells cs t (0,0))) (hx:cs[j]?=some (.string s)) (hn:∀y,vx t j y→F9 y):∃s',w'.cell? ⟨g,j,none⟩=some (.string s')∧w'.frozen? ⟨g,j,none⟩=false:=by
 obtain ⟨c',h5,h6,h7⟩:=h.dt g cs t hg hh
 rw[cell_of_row _ _ _ _ _ _ h5]
 have hf:w'.frozen? ⟨g,j,none⟩=false:=by simp[World.frozen?,h5]
 rcases h7 j _ hx with e|⟨y,e,hy⟩
 ·exact ⟨s,e,hf⟩
 ·obtain ⟨s',rfl,-⟩:=hn y hy
  exact ⟨s',e,hf⟩
theorem Dx {s:ByteArray} (o:Nat) (h:s.size≤8:=by decide):vx 9 o (.string s):=.inl ⟨rfl,_,rfl,h⟩
theorem Dy (o:Nat) (x:Int):vx 111 o (.int .i64 x):=.inr (.inl ⟨rfl,_,rfl⟩)
theorem Nn {s:ByteArray}{o:Nat} (ho:o % 2=0) (h:s.size≤8:=by decide):vx 74 o (.string s):=.inr (.inr (.inl ⟨rfl,.inl ⟨ho,_,rfl,h⟩⟩))
theorem Nl {o:Nat} (x:Int) (ho:o % 2=1):vx 74 o (.int .i64 x):=.inr (.inr (.inl ⟨rfl,.inr ⟨ho,_,rfl⟩⟩))
theorem BV {o:Nat} (x:Int) (ho:o % 6=0∨o % 6=4∨o % 6=5):vx 42 o (.int .i64 x):=.inr (.inr (.inr (.inl ⟨rfl,.inl ⟨ho,_,rfl⟩⟩)))
theorem BU {s:ByteArray}{o:Nat} (h:s.size≤8) (ho:o % 6=1∨o % 6=2∨o % 6=3):vx 42 o (.string s):=.inr (.inr (.inr (.inl ⟨rfl,.inr ⟨ho,_,rfl,h⟩⟩)))
theorem Q9 {s:ByteArray}{o:Nat} (ho:o % 7=0) (h:s.size≤8:=by decide):vx 46 o (.string s):=.inr (.inr (.inr (.inr (.inl ⟨rfl,ho,_,rfl,h⟩))))
theorem Mh {s:ByteArray}{o:Nat} (ho:o % 4=0) (h:s.size≤8:=by decide):vx 67 o (.string s):=.inr (.inr (.inr (.inr (.inr ⟨rfl,ho,_,rfl,h⟩))))
theorem nt {B:Nat}{w w0:World}{nm:ByteArray}{vv vr vg:Value}{n1 n2 n3:Nat} (h1:Wr B w 74 2 vv n1) (h2:Wr B w 111 2 vr n2) (h3:Wr B w 9 1 vg n3) (hB:B≤w.heap.size) (hs:Sp B w w0) :
  Calls Tryz.prog 31 #[.agg #[.string nm,vv,vr,vg]] w0 fun e w'=>e=.returned (.tuple #[])∧Sp B w0 w':=by
 obtain ⟨a1,c1,rfl,m1,k1⟩:=h1.up hs
 obtain ⟨a2,c2,rfl,m2,k2⟩:=h2.up hs
 obtain ⟨a3,c3,rfl,m3,k3⟩:=h3.up hs
 have MH:B≤w0.heap.size:=Nat.le_trans hB hs.bU.size
 have kb:=aJ w0 (.cells #[.string nm,.slice a1 n1 c1,.slice a2 n2 c2,.slice a3 n3 c3] 67)
 have hb:Sp B w0 (w0.alloc (.cells #[.string nm,.slice a1 n1 c1,.slice a2 n2 c2,.slice a3 n3 c3] 67)):=(Sp.refl _ _).alloc MH _
 obtain ⟨V,hV⟩:∃V,w0.alloc (.cells #[.string nm,.slice a1 n1 c1,.slice a2 n2 c2,.slice a3 n3 c3] 67)=V:=⟨_,rfl⟩
 rw[hV] at kb hb
 have HX:Hid (∀w',Sp B V w'→w'.cell? ⟨w0.heap.size,1,none⟩=some (.slice a1 n1 c1)∧w'.cell? ⟨w0.heap.size,2,none⟩=some (.slice a2 n2 c2)∧w'.cell? ⟨w0.heap.size,3,none⟩=some (.slice a3 n3 c3)):=fun w' h=>⟨h.cell MH kb (j:=1) rfl (fun y hy=>by have:=(fT hy).1;omega),h.cell MH kb (j:=2) rfl (fun y hy=>by have:=(fT hy).1;omega),h.cell MH kb (j:=3) rfl (fun y hy=>by have:=(fT hy).1;omega)⟩
 have K1:=al (O3.up k1 hb)
 have K2:=al (O3.up k2 hb)
 have K3:=al (O3.up k3 hb)
 have HB:=al hb
 have Er:=al (Sp.refl B V)
 obtain ⟨x1,x2,x3⟩:=ab HX V (ab Er)
 clear h1 h2 h3 hs hB MH kb hb k1 k2 k3
 go_enter Tryz.func31,Tryz.ntmps31
 go_wp2
 go_loopg [2] n1 (fun gk vq wr=>∃(k:Nat),vq=.int .i64 (k:Int)∧gk=n1-k∧k≤n1∧Hid (Sp B V wr))
 case atStart=>exact ⟨0,rfl,rfl,by omega,ab Er⟩
 case round =>
  obtain ⟨k,rfl,aW,eV,JS⟩:=hrel
  have bz:=al aW
  clear aW Er
  clear x1 x2 x3
  obtain ⟨x1,x2,x3⟩:=ab HX wr (ab JS)
  by_cases aM:k<n1
  ·obtain ⟨g,cur,rfl,hg,hh,hn⟩:=ab K1 (by omega)
   obtain ⟨iU,kj,kI,-⟩:=(ab JS).dt g cur _ hg hh
   obtain ⟨y0,d0,z0⟩:=ej (j:=k*2) kj (by omega)
   obtain ⟨y1,d1,z1⟩:=ej (j:=k*2+1) kj (by omega)
   obtain ⟨s0,t0⟩:=Sp.put (ab JS) (⟨_,kj⟩:nR wr g 74) hg (j:=k*2) (y:=.string ⟨#[115,112,111,105,108,116]⟩) (Nn (by omega))
   obtain ⟨s1,t1⟩:=Sp.put s0 t0 hg (j:=k*2+1) (y:=.int .i64 7) (Nl _ (by omega))
   have vC:=al s1
   have i0:(0:Int)≤(k:Int):=zH _
   have i1:(k:Int)<(n1:Int):=by omega
   have bu:=al aM
   clear hh hg hn kj kI aM s0 t0 s1 t1
   go_wp2
   go_roundg (n1-(k+1))
   case measure=>have:=ab bz;have:=ab bu;omega
   case rel=>exact ⟨k+1,by go_num,rfl,ab bu,ab vC⟩
  ·obtain rfl:k=n1:=by omega
   obtain ⟨woa,iI⟩:∃x,x=wr:=⟨_,rfl⟩
   subst iI
   clear aM eV bz
   go_wp2
   go_loopg [3] n2 (fun gk vq wr=>∃(k:Nat),vq=.int .i64 (k:Int)∧gk=n2-k∧k≤n2∧Hid (Sp B V wr))
   case atStart=>exact ⟨0,rfl,rfl,by omega,ab JS⟩
   case round =>
    obtain ⟨k,rfl,aW,eV,qC⟩:=hrel
    have bz:=al aW
    clear aW JS
    clear x1 x2 x3
    obtain ⟨x1,x2,x3⟩:=ab HX wr (ab qC)
    by_cases aM:k<n2
    ·obtain ⟨g,cur,rfl,hg,hh,hn⟩:=ab K2 (by omega)
     obtain ⟨iU,kj,kI,-⟩:=(ab qC).dt g cur _ hg hh
     obtain ⟨y0,d0,z0⟩:=ej (j:=k*2) kj (by omega)
     obtain ⟨y1,d1,z1⟩:=ej (j:=k*2+1) kj (by omega)
     obtain ⟨s0,t0⟩:=Sp.put (ab qC) (⟨_,kj⟩:nR wr g 111) hg (j:=k*2) (y:=.int .i64 1) (Dy _ _)
     obtain ⟨s1,t1⟩:=Sp.put s0 t0 hg (j:=k*2+1) (y:=.int .i64 2) (Dy _ _)
     have vC:=al s1
     have i0:(0:Int)≤(k:Int):=zH _
     have i1:(k:Int)<(n2:Int):=by omega
     have bu:=al aM
     clear hh hg hn kj kI aM s0 t0 s1 t1
     go_wp2
     go_roundg (n2-(k+1))
     case measure=>have:=ab bz;have:=ab bu;omega
     case rel=>exact ⟨k+1,by go_num,rfl,ab bu,ab vC⟩
    ·obtain rfl:k=n2:=by omega
     obtain ⟨YQ,iI⟩:∃x,x=wr:=⟨_,rfl⟩
     subst iI
     clear aM eV bz
     go_wp2
     go_loopg [4] n3 (fun gk vq wr=>∃(k:Nat),vq=.int .i64 (k:Int)∧gk=n3-k∧k≤n3∧Hid (Sp B V wr))
     case atStart=>exact ⟨0,rfl,rfl,by omega,ab qC⟩
     case round =>
      obtain ⟨k,rfl,aW,eV,Kl⟩:=hrel
      have bz:=al aW
      clear aW qC
      clear x1 x2 x3
      obtain ⟨x1,x2,x3⟩:=ab HX wr (ab Kl)
      by_cases aM:k<n3
      ·obtain ⟨g,cur,rfl,hg,hh,hn⟩:=ab K3 (by omega)
       obtain ⟨iU,kj,kI,-⟩:=(ab Kl).dt g cur _ hg hh
       obtain ⟨y0,d0,z0⟩:=ej (j:=k) kj (by omega)
       obtain ⟨s0,t0⟩:=Sp.put (ab Kl) (⟨_,kj⟩:nR wr g 9) hg (j:=k) (y:=.string ⟨#[115,112,111,105,108,116]⟩) (Dx _)
       have vC:=al s0
       have i0:(0:Int)≤(k:Int):=zH _
       have i1:(k:Int)<(n3:Int):=by omega
       have bu:=al aM
       clear hh hg hn kj kI aM s0 t0
       go_wp2
       go_roundg (n3-(k+1))
       case measure=>have:=ab bz;have:=ab bu;omega
       case rel=>exact ⟨k+1,by go_num,rfl,ab bu,ab vC⟩
      ·obtain rfl:k=n3:=by omega
       obtain ⟨woc,iI⟩:∃x,x=wr:=⟨_,rfl⟩
       subst iI
       clear aM eV bz
       go_wp2
       go_end0
       exact ⟨rfl,(ab HB).trans (ab Kl)⟩
theorem pJ.at {R:Nat→Prop}{w:World}{cs:List Value}{l:List En} (h:pJ R w cs l):∀(i:Nat) (e:En),l[i]?=some e→∃vv vr vg,(cs.drop (i*4)).take 4=[.string e.name,vv,vr,vg]∧gU R w 74 2 vv e.aR.length (rn e.aR)∧gU R w 111 2 vr e.res.length (lj e.res)∧gU R w 9 1 vg e.gone.length (cc e.gone):=by
 induction h with
 |nil=>intro i e h;simp at h
 |cons hv hr hg _ ih =>
  intro i e h
  cases i with
  |zero =>
   obtain rfl:=zC (h.symm.trans rfl)
   exact ⟨_,_,_,rfl,hv,hr,hg⟩
  |succ i =>
   obtain ⟨vv,vr,vg,h1,h2⟩:=ih i e (by simpa using h)
   refine ⟨vv,vr,vg,?_,h2⟩
   rw[show (i+1)*4=i*4+4 by omega]
   exact h1
structure MsP (R:Nat→Prop) (w:World) (m:Ms) (vf vo vm ve vr vg:Value) (nm:ByteArray) (fs:List Fd) (os:List ByteArray) (ms:List Ms) (es:List En) (rs:List (Int×Int)) (gs:List ByteArray) (cm ce:List Value):Prop where
 is:m=.mk nm fs os ms es rs gs
 hf:gU R w 42 6 vf fs.length (fB fs)
 ho:gU R w 9 1 vo os.length (cc os)
 hm:gU R w 46 7 vm ms.length cm
 eo:pG R w cm ms
 he:gU R w 67 4 ve es.length ce
 fA:pJ R w ce es
 hr:gU R w 111 2 vr rs.length (lj rs)
 hg:gU R w 9 1 vg gs.length (cc gs)
theorem pG.at {R:Nat→Prop}{w:World}{cs:List Value}{l:List Ms} (h:pG R w cs l):∀(i:Nat) (m:Ms),l[i]?=some m→∃vf vo vm ve vr vg nm fs os ms es rs gs cm ce,(cs.drop (i*7)).take 7=[.string nm,vf,vo,vm,ve,vr,vg]∧MsP R w m vf vo vm ve vr vg nm fs os ms es rs gs cm ce:=by
 induction h with
 |nil=>intro i e h;simp at h
 |cons hf ho hm eo he fA hr hg _ _ ih =>
  intro i m h
  cases i with
  |zero =>
   obtain rfl:=zC (h.symm.trans rfl)
   exact ⟨_,_,_,_,_,_,_,_,_,_,_,_,_,_,_,rfl,⟨rfl,hf,ho,hm,eo,he,fA,hr,hg⟩⟩
  |succ i =>
   obtain ⟨vf,vo,vm,ve,vr,vg,nm,fs,os,ms,es,rs,gs,cm,ce,h1,h2⟩:=ih i m (by simpa using h)
   refine ⟨vf,vo,vm,ve,vr,vg,nm,fs,os,ms,es,rs,gs,cm,ce,?_,h2⟩
   rw[show (i+1)*7=i*7+7 by omega]
   exact h1
theorem jV {cur:Array Value}{cs L:List Value}{n k i:Nat} (h:cur.toList.take (n*k)=cs) (hl:(cs.drop (i*k)).take k=L) {j:Nat}{x:Value} (hx:L[j]?=some x):cur[i*k+j]?=some x:=by
 rw[←hl,List.getElem?_take,List.getElem?_drop] at hx
 split at hx
 ·rw[←h,List.getElem?_take] at hx
  split at hx
  ·rw[←Array.getElem?_toList];exact hx
  ·cases hx
 ·cases hx
def EnK (B:Nat) (w:World) (n:Nat) (a:Option Addr):Prop:=∀k,k<n→∃g cur nm vv vr vg n1 n2 n3,a=some ⟨g,0,none⟩∧B≤g∧w.heap[g]?=some (.cells cur 67 (0,0))∧cur[k*4]?=some (.string nm)∧cur[k*4+1]?=some vv∧cur[k*4+2]?=some vr∧cur[k*4+3]?=some vg∧Wr B w 74 2 vv n1∧Wr B w 111 2 vr n2∧Wr B w 9 1 vg n3
theorem I' {B:Nat}{w:World}{v:Value}{l:List En}{cs:List Value} (h:gU (fun g=>B≤g) w 67 4 v l.length cs) (he:pJ (fun g=>B≤g) w cs l):∃a c,v=.slice a l.length c∧l.length≤140737488355328∧EnK B w l.length a:=by
 obtain ⟨h1,h0,⟨rfl,e⟩|⟨g,cap,cur,rfl,h2,h3,h4,h5,h6,h7⟩⟩:=h
 ·exact ⟨none,0,by rw[e],h0,fun k hk=>absurd hk (by omega)⟩
 ·refine ⟨_,cap,rfl,h0,fun k hk=>?_⟩
  obtain ⟨vv,vr,vg,dV,r1,r2,r3⟩:=he.at k _ (List.getElem?_eq_getElem hk)
  exact ⟨g,cur,_,vv,vr,vg,_,_,_,rfl,h2,h3,jV (j:=0) h7 dV rfl,jV (j:=1) h7 dV rfl,jV (j:=2) h7 dV rfl,jV (j:=3) h7 dV rfl,r1.wr,r2.wr,r3.wr⟩
def MsK (B:Nat) (w:World) (l:List Ms) (a:Option Addr):Prop:=∀i,i<l.length→∃g cur vf vo vm ve vr vg nm fs os ms es rs gs cm ce,a=some ⟨g,0,none⟩∧B≤g∧w.heap[g]?=some (.cells cur 46 (0,0))∧cur[i*7]?=some (.string nm)∧cur[i*7+1]?=some vf∧cur[i*7+2]?=some vo∧cur[i*7+3]?=some vm∧cur[i*7+4]?=some ve∧cur[i*7+5]?=some vr∧cur[i*7+6]?=some vg∧Ms.mk nm fs os ms es rs gs ∈ l∧MsP (fun g=>B≤g) w (.mk nm fs os ms es rs gs) vf vo vm ve vr vg nm fs os ms es rs gs cm ce
theorem Nw {B:Nat}{w:World}{v:Value}{l:List Ms}{cs:List Value} (h:gU (fun g=>B≤g) w 46 7 v l.length cs) (he:pG (fun g=>B≤g) w cs l):∃a c,v=.slice a l.length c∧l.length≤140737488355328∧MsK B w l a:=by
 obtain ⟨h1,h0,⟨rfl,e⟩|⟨g,cap,cur,rfl,h2,h3,h4,h5,h6,h7⟩⟩:=h
 ·exact ⟨none,0,by rw[e],h0,fun k hk=>absurd hk (by omega)⟩
 ·refine ⟨_,cap,rfl,h0,fun k hk=>?_⟩
  obtain ⟨vf,vo,vm,ve,vr,vg,nm,fs,os,ms,es,rs,gs,cm,ce,dV,hP⟩:=he.at k _ (List.getElem?_eq_getElem hk)
  have e:=hP.is
  rw[e] at hP
  exact ⟨g,cur,vf,vo,vm,ve,vr,vg,nm,fs,os,ms,es,rs,gs,cm,ce,rfl,h2,h3,jV (j:=0) h7 dV rfl,jV (j:=1) h7 dV rfl,jV (j:=2) h7 dV rfl,jV (j:=3) h7 dV rfl,jV (j:=4) h7 dV rfl,jV (j:=5) h7 dV rfl,jV (j:=6) h7 dV rfl,by rw[←e];exact List.getElem_mem hk,hP⟩
def Ud (f:Nat):Prop:=∀(B:Nat) (w:World) (v:Value) (l:List Ms) (cs:List Value),gU (fun g=>B≤g) w 46 7 v l.length cs→pG (fun g=>B≤g) w cs l→(∀m ∈ l,tL f m)→B≤w.heap.size→Calls Tryz.prog 32 #[v] w fun e w'=>e=.returned (.tuple #[])∧Sp B w w'
theorem EK:Ud 0:=by
 intro B w v l cs hv eo hd hB
 have e:l=[]:=by cases l with|nil=>rfl|cons m r=>exact (hd m (List.mem_cons_self ..)).elim
 subst e
 obtain ⟨a,c,rfl,-,-⟩:=hv.wr
 simp only[List.length_nil]
 clear hv eo hd hB
 go_enter Tryz.func32,Tryz.ntmps32
 go_wp2
 go_loopg [2,3,4,5,6,7] 1 (fun gk vq _ _ _ _ _ wr=>vq=.int .i64 0∧gk=1∧Hid (wr=w))
 case atStart=>exact ⟨rfl,rfl,rfl⟩
 case round =>
  obtain ⟨rfl,aW,HW⟩:=hrel
  go_wp2
  go_end0
  have:=ab HW
  subst this
  exact ⟨rfl,Sp.refl _ _⟩
theorem xP {f:Nat} (ih:Ud f):Ud (f+1):=by
 intro B w v l cs hv eo hd hB
 obtain ⟨a,c,rfl,hn,hk⟩:=Nw hv eo
 have HK:=al hk
 have Hd:=al hd
 have FU:=al ih
 have TD:=al hB
 clear hv eo hk hd ih hB
 go_enter Tryz.func32,Tryz.ntmps32
 go_wp2
 go_loopg [2,3,4,5,6,7] l.length (fun gk vq _ _ _ _ _ wr=>∃(i:Nat),vq=.int .i64 (i:Int)∧gk=l.length-i∧i≤l.length∧Hid (Sp B w wr))
 case atStart=>exact ⟨0,rfl,rfl,by omega,Sp.refl _ _⟩
 case round =>
  obtain ⟨i,rfl,aW,hio,HS⟩:=hrel
  have XZ:=al aW
  clear aW
  obtain ⟨wo,iI⟩:∃x,x=wr:=⟨_,rfl⟩
  subst iI
  by_cases aM:i<l.length
  ·obtain ⟨g,cur,vf,vo,vm,ve,vr,vg,nm,fs,os,ms,es,rs,gs,cm,ce,rfl,hg,hh,e0,e1,e2,e3,e4,e5,e6,cJ,hP⟩:=ab HK i aM
   obtain ⟨x3,y3,z3⟩:=hP.hm.sp (fun _ h=>h) (ab HS)
   obtain ⟨l3,p3,q3⟩:=hP.eo.sp (fun _ h=>h) (ab HS) 0 x3 rfl z3
   rw[←q3.len] at y3
   have HC:=al (ab FU B wo vm l3 x3 y3 p3 (q3.dp f (ab Hd _ cJ)) (Nat.le_trans (ab TD) (ab HS).bU.size))
   clear y3 z3 p3 q3 cJ
   obtain ⟨af,cf,rfl,nf,kf⟩:=hP.hf.wr
   obtain ⟨ao,co,rfl,no,ko⟩:=hP.ho.wr
   obtain ⟨am,dk,rfl,J3,km⟩:=hP.hm.wr
   obtain ⟨ae,dc,rfl,ne,ke⟩:=I' hP.he hP.fA
   obtain ⟨ar,cr,rfl,nr,kr⟩:=hP.hr.wr
   obtain ⟨ag,cg,rfl,ng,kg⟩:=hP.hg.wr
   have HX:Hid (∀w',Sp B w w'→w'.cell? ⟨g,i*7+1,none⟩=some (.slice af fs.length cf)∧w'.cell? ⟨g,i*7+2,none⟩=some (.slice ao os.length co)∧w'.cell? ⟨g,i*7+3,none⟩=some (.slice am ms.length dk)∧w'.cell? ⟨g,i*7+4,none⟩=some (.slice ae es.length dc)∧w'.cell? ⟨g,i*7+5,none⟩=some (.slice ar rs.length cr)∧w'.cell? ⟨g,i*7+6,none⟩=some (.slice ag gs.length cg)):=fun w' h=>⟨h.cell hg hh e1 (fun y hy=>by have:=(gH hy).1;omega),h.cell hg hh e2 (fun y hy=>by have:=(gH hy).1;omega),h.cell hg hh e3 (fun y hy=>by have:=(gH hy).1;omega),h.cell hg hh e4 (fun y hy=>by have:=(gH hy).1;omega),h.cell hg hh e5 (fun y hy=>by have:=(gH hy).1;omega),h.cell hg hh e6 (fun y hy=>by have:=(gH hy).1;omega)⟩
   have HQ0:Hid (∀w',Sp B w w'→∃s',w'.cell? ⟨g,i*7,none⟩=some (.string s')∧w'.frozen? ⟨g,i*7,none⟩=false):=fun w' h=>h.text hg hh e0 (fun y hy=>(gH hy).2)
   have yT:Hid (∀w',Sp B w w'→Sp B w (w'.setCell ⟨g,i*7,none⟩ (.string ⟨#[115,112,111,105,108,116]⟩))):=fun w' h=>by
    obtain ⟨c',h5,-,-⟩:=h.dt g cur _ hg hh
    exact (Sp.put h ⟨_,h5⟩ hg (Q9 (by omega))).1
   have Kf:=al kf
   have Ko:=al ko
   have Ke:=al ke
   have Kr:=al kr
   have Kg:=al kg
   obtain ⟨x1,x2,x3,x4,x5,x6⟩:=ab HX wo (ab HS)
   have j0:(0:Int)≤(i:Int):=zH _
   have j1:(i:Int)<(l.length:Int):=by omega
   have S5:=al aM
   clear hP kf ko km ke kr kg hh hg e0 e1 e2 e3 e4 e5 e6 aM
   go_wp2_with fail
   refine (ab HC).mono ?_
   rintro e' w2 ⟨rfl,gD⟩
   have Er:=al ((ab HS).trans gD)
   clear gD HC HS x1 x2 x3 x4 x5 x6
   obtain ⟨x1,x2,x3,x4,x5,x6⟩:=ab HX w2 (ab Er)
   go_wp2
   go_loopg [3] es.length (fun gk vq wr=>∃(k:Nat),vq=.int .i64 (k:Int)∧gk=es.length-k∧k≤es.length∧Hid (Sp B w wr))
   case atStart=>exact ⟨0,rfl,rfl,by omega,ab Er⟩
   case round =>
    obtain ⟨k,rfl,aW,eV,qC⟩:=hrel
    have bz:=al aW
    clear aW Er
    clear x1 x2 x3 x4 x5 x6
    obtain ⟨x1,x2,x3,x4,x5,x6⟩:=ab HX wr (ab qC)
    by_cases aM:k<es.length
    ·obtain ⟨g2,Jc,xZ,vv,BG,BJ,n1,n2,n3,rfl,ep,By,e0,e1,e2,e3,r1,r2,r3⟩:=ab Ke k aM
     have HC:=al (fun s':ByteArray=>nt (nm:=s') r1 r2 r3 (ab TD) (ab qC))
     obtain ⟨b1,d1,rfl,-,-⟩:=r1
     obtain ⟨b2,d2,rfl,-,-⟩:=r2
     obtain ⟨b3,d3,rfl,-,-⟩:=r3
     have HQ:Hid (∀w',Sp B w w'→∃s',w'.cell? ⟨g2,k*4,none⟩=some (.string s')∧w'.frozen? ⟨g2,k*4,none⟩=false):=fun w' h=>h.text ep By e0 (fun y hy=>(fT hy).2)
     have q1:=(ab qC).cell ep By e1 (fun y hy=>by have:=(fT hy).1;omega)
     have q2:=(ab qC).cell ep By e2 (fun y hy=>by have:=(fT hy).1;omega)
     have q3:=(ab qC).cell ep By e3 (fun y hy=>by have:=(fT hy).1;omega)
     obtain ⟨s',q0,z0⟩:=ab HQ wr (ab qC)
     have HT:Hid (∀w',Sp B w w'→Sp B w (w'.setCell ⟨g2,k*4,none⟩ (.string ⟨#[115,112,111,105,108,116]⟩))):=fun w' h=>by
      obtain ⟨c',h5,-,-⟩:=h.dt g2 Jc _ ep By
      exact (Sp.put h ⟨_,h5⟩ ep (Mh (by omega))).1
     have i0:(0:Int)≤(k:Int):=zH _
     have i1:(k:Int)<(es.length:Int):=by omega
     have bu:=al aM
     clear By ep e0 e1 e2 e3 aM z0
     go_wp2_with fail
     refine (ab HC s').mono ?_
     rintro e' w2 ⟨rfl,gD⟩
     have yU:=al ((ab qC).trans gD)
     clear gD HC q0 q1 q2 q3 qC
     clear x1 x2 x3 x4 x5 x6
     obtain ⟨x1,x2,x3,x4,x5,x6⟩:=ab HX w2 (ab yU)
     obtain ⟨s2,q0,z0⟩:=ab HQ w2 (ab yU)
     have vC:=al (ab HT w2 (ab yU))
     go_wp2
     go_roundg (es.length-(k+1))
     case measure=>have:=ab bz;have:=ab bu;omega
     case rel=>exact ⟨k+1,by go_num,rfl,ab bu,ab vC⟩
    ·obtain rfl:k=es.length:=by omega
     obtain ⟨YQ,iI⟩:∃x,x=wr:=⟨_,rfl⟩
     subst iI
     clear aM eV bz
     go_wp2
     go_loopg [4] fs.length (fun gk vq wr=>∃(k:Nat),vq=.int .i64 (k:Int)∧gk=fs.length-k∧k≤fs.length∧Hid (Sp B w wr))
     case atStart=>exact ⟨0,rfl,rfl,by omega,ab qC⟩
     case round =>
      obtain ⟨k,rfl,aW,eV,Kl⟩:=hrel
      have bz:=al aW
      clear aW qC
      clear x1 x2 x3 x4 x5 x6
      obtain ⟨x1,x2,x3,x4,x5,x6⟩:=ab HX wr (ab Kl)
      by_cases aM:k<fs.length
      ·obtain ⟨g,cur,rfl,hg,hh,hn⟩:=ab Kf (by omega)
       obtain ⟨iU,kj,kI,-⟩:=(ab Kl).dt g cur _ hg hh
       obtain ⟨y0,d0,z0⟩:=ej (j:=k*6) kj (by omega)
       obtain ⟨y1,d1,z1⟩:=ej (j:=k*6+1) kj (by omega)
       obtain ⟨y2,d2,z2⟩:=ej (j:=k*6+2) kj (by omega)
       obtain ⟨y3,d3,z3⟩:=ej (j:=k*6+3) kj (by omega)
       obtain ⟨y4,d4,z4⟩:=ej (j:=k*6+4) kj (by omega)
       obtain ⟨y5,d5,z5⟩:=ej (j:=k*6+5) kj (by omega)
       obtain ⟨s0,t0⟩:=Sp.put (ab Kl) (⟨_,kj⟩:nR wr g 42) hg (j:=k*6) (y:=.int .i64 1) (BV _ (by omega))
       obtain ⟨s1,t1⟩:=Sp.put s0 t0 hg (j:=k*6+1) (y:=.string ⟨#[]⟩) (BU (by decide) (by omega))
       obtain ⟨s2,t2⟩:=Sp.put s1 t1 hg (j:=k*6+2) (y:=.string ⟨#[120]⟩) (BU (by decide) (by omega))
       obtain ⟨s3,t3⟩:=Sp.put s2 t2 hg (j:=k*6+3) (y:=.string ⟨#[115,112,111,105,108,116]⟩) (BU (by decide) (by omega))
       obtain ⟨s4,t4⟩:=Sp.put s3 t3 hg (j:=k*6+4) (y:=.int .i64 0) (BV _ (by omega))
       obtain ⟨s5,t5⟩:=Sp.put s4 t4 hg (j:=k*6+5) (y:=.int .i64 0) (BV _ (by omega))
       have vC:=al s5
       have i0:(0:Int)≤(k:Int):=zH _
       have i1:(k:Int)<(fs.length:Int):=by omega
       have bu:=al aM
       clear hh hg hn kj kI aM s0 t0 s1 t1 s2 t2 s3 t3 s4 t4 s5 t5
       go_wp2
       go_roundg (fs.length-(k+1))
       case measure=>have:=ab bz;have:=ab bu;omega
       case rel=>exact ⟨k+1,by go_num,rfl,ab bu,ab vC⟩
      ·obtain rfl:k=fs.length:=by omega
       obtain ⟨woc,iI⟩:∃x,x=wr:=⟨_,rfl⟩
       subst iI
       clear aM eV bz
       go_wp2
       go_loopg [5] os.length (fun gk vq wr=>∃(k:Nat),vq=.int .i64 (k:Int)∧gk=os.length-k∧k≤os.length∧Hid (Sp B w wr))
       case atStart=>exact ⟨0,rfl,rfl,by omega,ab Kl⟩
       case round =>
        obtain ⟨k,rfl,aW,eV,Te⟩:=hrel
        have bz:=al aW
        clear aW Kl
        clear x1 x2 x3 x4 x5 x6
        obtain ⟨x1,x2,x3,x4,x5,x6⟩:=ab HX wr (ab Te)
        by_cases aM:k<os.length
        ·obtain ⟨g,cur,rfl,hg,hh,hn⟩:=ab Ko (by omega)
         obtain ⟨iU,kj,kI,-⟩:=(ab Te).dt g cur _ hg hh
         obtain ⟨y0,d0,z0⟩:=ej (j:=k) kj (by omega)
         obtain ⟨s0,t0⟩:=Sp.put (ab Te) (⟨_,kj⟩:nR wr g 9) hg (j:=k) (y:=.string ⟨#[115,112,111,105,108,116]⟩) (Dx _)
         have vC:=al s0
         have i0:(0:Int)≤(k:Int):=zH _
         have i1:(k:Int)<(os.length:Int):=by omega
         have bu:=al aM
         clear hh hg hn kj kI aM s0 t0
         go_wp2
         go_roundg (os.length-(k+1))
         case measure=>have:=ab bz;have:=ab bu;omega
         case rel=>exact ⟨k+1,by go_num,rfl,ab bu,ab vC⟩
        ·obtain rfl:k=os.length:=by omega
         obtain ⟨wod,iI⟩:∃x,x=wr:=⟨_,rfl⟩
         subst iI
         clear aM eV bz
         go_wp2
         go_loopg [6] rs.length (fun gk vq wr=>∃(k:Nat),vq=.int .i64 (k:Int)∧gk=rs.length-k∧k≤rs.length∧Hid (Sp B w wr))
         case atStart=>exact ⟨0,rfl,rfl,by omega,ab Te⟩
         case round =>
          obtain ⟨k,rfl,aW,eV,Td⟩:=hrel
          have bz:=al aW
          clear aW Te
          clear x1 x2 x3 x4 x5 x6
          obtain ⟨x1,x2,x3,x4,x5,x6⟩:=ab HX wr (ab Td)
          by_cases aM:k<rs.length
          ·obtain ⟨g,cur,rfl,hg,hh,hn⟩:=ab Kr (by omega)
           obtain ⟨iU,kj,kI,-⟩:=(ab Td).dt g cur _ hg hh
           obtain ⟨y0,d0,z0⟩:=ej (j:=k*2) kj (by omega)
           obtain ⟨y1,d1,z1⟩:=ej (j:=k*2+1) kj (by omega)
           obtain ⟨s0,t0⟩:=Sp.put (ab Td) (⟨_,kj⟩:nR wr g 111) hg (j:=k*2) (y:=.int .i64 3) (Dy _ _)
           obtain ⟨s1,t1⟩:=Sp.put s0 t0 hg (j:=k*2+1) (y:=.int .i64 4) (Dy _ _)
           have vC:=al s1
           have i0:(0:Int)≤(k:Int):=zH _
           have i1:(k:Int)<(rs.length:Int):=by omega
           have bu:=al aM
           clear hh hg hn kj kI aM s0 t0 s1 t1
           go_wp2
           go_roundg (rs.length-(k+1))
           case measure=>have:=ab bz;have:=ab bu;omega
           case rel=>exact ⟨k+1,by go_num,rfl,ab bu,ab vC⟩
          ·obtain rfl:k=rs.length:=by omega
           obtain ⟨woe,iI⟩:∃x,x=wr:=⟨_,rfl⟩
           subst iI
           clear aM eV bz
           go_wp2
           go_loopg [7] gs.length (fun gk vq wr=>∃(k:Nat),vq=.int .i64 (k:Int)∧gk=gs.length-k∧k≤gs.length∧Hid (Sp B w wr))
           case atStart=>exact ⟨0,rfl,rfl,by omega,ab Td⟩
           case round =>
            obtain ⟨k,rfl,aW,eV,Tc⟩:=hrel
            have bz:=al aW
            clear aW Td
            clear x1 x2 x3 x4 x5 x6
            obtain ⟨x1,x2,x3,x4,x5,x6⟩:=ab HX wr (ab Tc)
            by_cases aM:k<gs.length
            ·obtain ⟨g,cur,rfl,hg,hh,hn⟩:=ab Kg (by omega)
             obtain ⟨iU,kj,kI,-⟩:=(ab Tc).dt g cur _ hg hh
             obtain ⟨y0,d0,z0⟩:=ej (j:=k) kj (by omega)
             obtain ⟨s0,t0⟩:=Sp.put (ab Tc) (⟨_,kj⟩:nR wr g 9) hg (j:=k) (y:=.string ⟨#[115,112,111,105,108,116]⟩) (Dx _)
             have vC:=al s0
             have i0:(0:Int)≤(k:Int):=zH _
             have i1:(k:Int)<(gs.length:Int):=by omega
             have bu:=al aM
             clear hh hg hn kj kI aM s0 t0
             go_wp2
             go_roundg (gs.length-(k+1))
             case measure=>have:=ab bz;have:=ab bu;omega
             case rel=>exact ⟨k+1,by go_num,rfl,ab bu,ab vC⟩
            ·obtain rfl:k=gs.length:=by omega
             obtain ⟨wof,iI⟩:∃x,x=wr:=⟨_,rfl⟩
             subst iI
             clear aM eV bz
             obtain ⟨s2,q0,z0⟩:=ab HQ0 _ (ab Tc)
             have vC:=al (ab yT _ (ab Tc))
             go_wp2
             go_roundg (l.length-(i+1))
             case measure=>have:=ab XZ;have:=ab S5;omega
             case rel=>exact ⟨i+1,by go_num,rfl,ab S5,ab vC⟩
  ·obtain rfl:i=l.length:=by omega
   go_wp2
   go_end0
   exact ⟨rfl,ab HS⟩
theorem qM:∀f,Ud f
 |0=>EK
 |f+1=>xP (qM f)
end Go.Proofs.YtichhjfjcinjgaaGreatDoor

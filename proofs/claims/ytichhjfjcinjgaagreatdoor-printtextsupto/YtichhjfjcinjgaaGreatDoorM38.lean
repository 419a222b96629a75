import Derived.Test.YtichhjfjcinjgaaGreatDoorYEa
set_option maxHeartbeats 8000000
set_option maxRecDepth 100000
namespace Go.Proofs.YtichhjfjcinjgaaGreatDoor
open Go.RowKit
attribute [local go_sem ↓] Go.wp_at_zero Go.wp_at_succ
def On (B:Nat) (w:World) (e size n:Nat) (a:Option Addr):Prop:=0<n→∃g cur,a=some ⟨g,0,none⟩∧B≤g∧w.heap[g]?=some (.cells cur e (0,0))∧n*size≤cur.size
def Wr (B:Nat) (w:World) (e size:Nat) (v:Value) (n:Nat):Prop:=∃a c,v=.slice a n c∧n≤140737488355328∧On B w e size n a
theorem On.up {B:Nat}{w w':World}{e size n:Nat}{a:Option Addr} (h:On B w e size n a) (hs:Sp B w w'):On B w' e size n a:=fun hn=>by
 obtain ⟨g,cur,h1,h2,h3,h4⟩:=h hn
 obtain ⟨c',h5,h6,-⟩:=hs.dj g cur e h2 h3
 exact ⟨g,c',h1,h2,h5,by rw[h6];exact h4⟩
theorem Wr.up {B:Nat}{w w':World}{e size n:Nat}{v:Value} (h:Wr B w e size v n) (hs:Sp B w w'):Wr B w' e size v n:=by
 obtain ⟨a,c,h1,h2,h3⟩:=h
 exact ⟨a,c,h1,h2,h3.up hs⟩
theorem gM.wr {B:Nat}{w:World}{e size n:Nat}{v:Value}{xs:List Value} (h:gM (fun g=>B≤g) w e size v n xs):Wr B w e size v n:=by
 obtain ⟨h1,h0,⟨rfl,rfl⟩|⟨g,cap,cur,rfl,h2,h3,h4,h5,h6,h7⟩⟩:=h
 ·exact ⟨none,0,rfl,h0,fun h=>absurd h (by omega)⟩
 ·exact ⟨_,cap,rfl,h0,fun _=>⟨g,cur,rfl,h2,h3,by rw[h6];exact Nat.mul_le_mul_right _ h4⟩⟩
def np (w:World) (g t:Nat):Prop:=∃cs,w.heap[g]?=some (.cells cs t (0,0))
theorem Sp.put {B:Nat}{V w:World}{g t j:Nat}{y:Value} (h:Sp B V w) (ht:np w g t) (hg:B≤g) (hy:uJ t j y):Sp B V (w.setCell ⟨g,j,none⟩ y)∧np (w.setCell ⟨g,j,none⟩ y) g t:=by
 obtain ⟨cs,hh⟩:=ht
 exact ⟨h.trans (Sp.set hh hg hy),_,(bh hh y).1⟩
theorem ec {w:World}{g t j:Nat}{cs:Array Value} (hh:w.heap[g]?=some (.cells cs t (0,0))) (hj:j<cs.size):∃y,w.cell? ⟨g,j,none⟩=some y∧w.frozen? ⟨g,j,none⟩=false:=by
 refine ⟨cs[j],?_,by simp[World.frozen?,hh]⟩
 rw[cell_of_row _ _ _ _ _ _ hh]
 exact Array.getElem?_eq_getElem hj
theorem Sp.cell {B:Nat}{w w':World} (h:Sp B w w') {g t j:Nat}{cs:Array Value}{x:Value} (hg:B≤g) (hh:w.heap[g]?=some (.cells cs t (0,0))) (hx:cs[j]?=some x) (hn:∀y,¬uJ t j y):w'.cell? ⟨g,j,none⟩=some x:=by
 obtain ⟨c',h5,h6,h7⟩:=h.dj g cs t hg hh
 rw[cell_of_row _ _ _ _ _ _ h5]
 rcases h7 j x hx with e|⟨y,-,hy⟩
 ·exact e
 ·exact absurd hy (hn y)
theorem Sp.text {B:Nat}{w w':World} (h:Sp B w w') {g t j:Nat}{cs:Array Value}{s:ByteArray} (hg:B≤g) (hh:w.heap[g]?=some (.cells cs t (0,0))) (hx:cs[j]?=some (.string s)) (hn:∀y,uJ t j y→Fq y):∃s',w'.cell? ⟨g,j,none⟩=some (.string s')∧w'.frozen? ⟨g,j,none⟩=false:=by
 obtain ⟨c',h5,h6,h7⟩:=h.dj g cs t hg hh
 rw[cell_of_row _ _ _ _ _ _ h5]
 have hf:w'.frozen? ⟨g,j,none⟩=false:=by simp[World.frozen?,h5]
 rcases h7 j _ hx with e|⟨y,e,hy⟩
 ·exact ⟨s,e,hf⟩
 ·obtain ⟨s',rfl,-⟩:=hn y hy
  exact ⟨s',e,hf⟩
theorem CU {s:ByteArray} (o:Nat) (h:s.size≤8:=by decide):uJ 9 o (.string s):=.inl ⟨rfl,_,rfl,h⟩
theorem CV (o:Nat) (x:Int):uJ 111 o (.int .i64 x):=.inr (.inl ⟨rfl,_,rfl⟩)
theorem MK {s:ByteArray}{o:Nat} (ho:o % 2=0) (h:s.size≤8:=by decide):uJ 74 o (.string s):=.inr (.inr (.inl ⟨rfl,.inl ⟨ho,_,rfl,h⟩⟩))
theorem MJ {o:Nat} (x:Int) (ho:o % 2=1):uJ 74 o (.int .i64 x):=.inr (.inr (.inl ⟨rfl,.inr ⟨ho,_,rfl⟩⟩))
theorem Bp {o:Nat} (x:Int) (ho:o % 6=0∨o % 6=4∨o % 6=5):uJ 42 o (.int .i64 x):=.inr (.inr (.inr (.inl ⟨rfl,.inl ⟨ho,_,rfl⟩⟩)))
theorem Bo {s:ByteArray}{o:Nat} (h:s.size≤8) (ho:o % 6=1∨o % 6=2∨o % 6=3):uJ 42 o (.string s):=.inr (.inr (.inr (.inl ⟨rfl,.inr ⟨ho,_,rfl,h⟩⟩)))
theorem Qy {s:ByteArray}{o:Nat} (ho:o % 7=0) (h:s.size≤8:=by decide):uJ 46 o (.string s):=.inr (.inr (.inr (.inr (.inl ⟨rfl,ho,_,rfl,h⟩))))
theorem LD {s:ByteArray}{o:Nat} (ho:o % 4=0) (h:s.size≤8:=by decide):uJ 67 o (.string s):=.inr (.inr (.inr (.inr (.inr ⟨rfl,ho,_,rfl,h⟩))))
theorem mN {B:Nat}{w w0:World}{nm:ByteArray}{vv vr vg:Value}{n1 n2 n3:Nat} (h1:Wr B w 74 2 vv n1) (h2:Wr B w 111 2 vr n2) (h3:Wr B w 9 1 vg n3) (hB:B≤w.heap.size) (hs:Sp B w w0) :
  Calls Tryz.prog 31 #[.agg #[.string nm,vv,vr,vg]] w0 fun e w'=>e=.returned (.tuple #[])∧Sp B w0 w':=by
 obtain ⟨a1,c1,rfl,m1,k1⟩:=h1.up hs
 obtain ⟨a2,c2,rfl,m2,k2⟩:=h2.up hs
 obtain ⟨a3,c3,rfl,m3,k3⟩:=h3.up hs
 have L5:B≤w0.heap.size:=Nat.le_trans hB hs.bV.size
 have kb:=aK w0 (.cells #[.string nm,.slice a1 n1 c1,.slice a2 n2 c2,.slice a3 n3 c3] 67)
 have hb:Sp B w0 (w0.alloc (.cells #[.string nm,.slice a1 n1 c1,.slice a2 n2 c2,.slice a3 n3 c3] 67)):=(Sp.refl _ _).alloc L5 _
 obtain ⟨V,hV⟩:∃V,w0.alloc (.cells #[.string nm,.slice a1 n1 c1,.slice a2 n2 c2,.slice a3 n3 c3] 67)=V:=⟨_,rfl⟩
 rw[hV] at kb hb
 have HX:Hid (∀w',Sp B V w'→w'.cell? ⟨w0.heap.size,1,none⟩=some (.slice a1 n1 c1)∧w'.cell? ⟨w0.heap.size,2,none⟩=some (.slice a2 n2 c2)∧w'.cell? ⟨w0.heap.size,3,none⟩=some (.slice a3 n3 c3)):=fun w' h=>⟨h.cell L5 kb (j:=1) rfl (fun y hy=>by have:=(fL hy).1;omega),h.cell L5 kb (j:=2) rfl (fun y hy=>by have:=(fL hy).1;omega),h.cell L5 kb (j:=3) rfl (fun y hy=>by have:=(fL hy).1;omega)⟩
 have K1:=al (On.up k1 hb)
 have K2:=al (On.up k2 hb)
 have K3:=al (On.up k3 hb)
 have HB:=al hb
 have DM:=al (Sp.refl B V)
 obtain ⟨x1,x2,x3⟩:=ab HX V (ab DM)
 clear h1 h2 h3 hs hB L5 kb hb k1 k2 k3
 go_enter Tryz.func31,Tryz.ntmps31
 go_wp2
 go_loopg [2] n1 (fun gk vq wr=>∃(k:Nat),vq=.int .i64 (k:Int)∧gk=n1-k∧k≤n1∧Hid (Sp B V wr))
 case atStart=>exact ⟨0,rfl,rfl,by omega,ab DM⟩
 case round =>
  obtain ⟨k,rfl,aU,eO,I6⟩:=hrel
  have bz:=al aU
  clear aU DM
  clear x1 x2 x3
  obtain ⟨x1,x2,x3⟩:=ab HX wr (ab I6)
  by_cases aM:k<n1
  ·obtain ⟨g,cur,rfl,hg,hh,hn⟩:=ab K1 (by omega)
   obtain ⟨iH,jV,lz,-⟩:=(ab I6).dj g cur _ hg hh
   obtain ⟨y0,d0,z0⟩:=ec (j:=k*2) jV (by omega)
   obtain ⟨y1,d1,z1⟩:=ec (j:=k*2+1) jV (by omega)
   obtain ⟨s0,t0⟩:=Sp.put (ab I6) (⟨_,jV⟩:np wr g 74) hg (j:=k*2) (y:=.string ⟨#[115,112,111,105,108,116]⟩) (MK (by omega))
   obtain ⟨s1,t1⟩:=Sp.put s0 t0 hg (j:=k*2+1) (y:=.int .i64 7) (MJ _ (by omega))
   have uO:=al s1
   have i0:(0:Int)≤(k:Int):=zH _
   have i1:(k:Int)<(n1:Int):=by omega
   have bu:=al aM
   clear hh hg hn jV lz aM s0 t0 s1 t1
   go_wp2
   go_roundg (n1-(k+1))
   case measure=>have:=ab bz;have:=ab bu;omega
   case rel=>exact ⟨k+1,by go_num,rfl,ab bu,ab uO⟩
  ·obtain rfl:k=n1:=by omega
   obtain ⟨woa,iv⟩:∃x,x=wr:=⟨_,rfl⟩
   subst iv
   clear aM eO bz
   go_wp2
   go_loopg [3] n2 (fun gk vq wr=>∃(k:Nat),vq=.int .i64 (k:Int)∧gk=n2-k∧k≤n2∧Hid (Sp B V wr))
   case atStart=>exact ⟨0,rfl,rfl,by omega,ab I6⟩
   case round =>
    obtain ⟨k,rfl,aU,eO,pV⟩:=hrel
    have bz:=al aU
    clear aU I6
    clear x1 x2 x3
    obtain ⟨x1,x2,x3⟩:=ab HX wr (ab pV)
    by_cases aM:k<n2
    ·obtain ⟨g,cur,rfl,hg,hh,hn⟩:=ab K2 (by omega)
     obtain ⟨iH,jV,lz,-⟩:=(ab pV).dj g cur _ hg hh
     obtain ⟨y0,d0,z0⟩:=ec (j:=k*2) jV (by omega)
     obtain ⟨y1,d1,z1⟩:=ec (j:=k*2+1) jV (by omega)
     obtain ⟨s0,t0⟩:=Sp.put (ab pV) (⟨_,jV⟩:np wr g 111) hg (j:=k*2) (y:=.int .i64 1) (CV _ _)
     obtain ⟨s1,t1⟩:=Sp.put s0 t0 hg (j:=k*2+1) (y:=.int .i64 2) (CV _ _)
     have uO:=al s1
     have i0:(0:Int)≤(k:Int):=zH _
     have i1:(k:Int)<(n2:Int):=by omega
     have bu:=al aM
     clear hh hg hn jV lz aM s0 t0 s1 t1
     go_wp2
     go_roundg (n2-(k+1))
     case measure=>have:=ab bz;have:=ab bu;omega
     case rel=>exact ⟨k+1,by go_num,rfl,ab bu,ab uO⟩
    ·obtain rfl:k=n2:=by omega
     obtain ⟨Yl,iv⟩:∃x,x=wr:=⟨_,rfl⟩
     subst iv
     clear aM eO bz
     go_wp2
     go_loopg [4] n3 (fun gk vq wr=>∃(k:Nat),vq=.int .i64 (k:Int)∧gk=n3-k∧k≤n3∧Hid (Sp B V wr))
     case atStart=>exact ⟨0,rfl,rfl,by omega,ab pV⟩
     case round =>
      obtain ⟨k,rfl,aU,eO,JC⟩:=hrel
      have bz:=al aU
      clear aU pV
      clear x1 x2 x3
      obtain ⟨x1,x2,x3⟩:=ab HX wr (ab JC)
      by_cases aM:k<n3
      ·obtain ⟨g,cur,rfl,hg,hh,hn⟩:=ab K3 (by omega)
       obtain ⟨iH,jV,lz,-⟩:=(ab JC).dj g cur _ hg hh
       obtain ⟨y0,d0,z0⟩:=ec (j:=k) jV (by omega)
       obtain ⟨s0,t0⟩:=Sp.put (ab JC) (⟨_,jV⟩:np wr g 9) hg (j:=k) (y:=.string ⟨#[115,112,111,105,108,116]⟩) (CU _)
       have uO:=al s0
       have i0:(0:Int)≤(k:Int):=zH _
       have i1:(k:Int)<(n3:Int):=by omega
       have bu:=al aM
       clear hh hg hn jV lz aM s0 t0
       go_wp2
       go_roundg (n3-(k+1))
       case measure=>have:=ab bz;have:=ab bu;omega
       case rel=>exact ⟨k+1,by go_num,rfl,ab bu,ab uO⟩
      ·obtain rfl:k=n3:=by omega
       obtain ⟨woc,iv⟩:∃x,x=wr:=⟨_,rfl⟩
       subst iv
       clear aM eO bz
       go_wp2
       go_end0
       exact ⟨rfl,(ab HB).trans (ab JC)⟩
theorem pd.at {R:Nat→Prop}{w:World}{cs:List Value}{l:List En} (h:pd R w cs l):∀(i:Nat) (e:En),l[i]?=some e→∃vv vr vg,(cs.drop (i*4)).take 4=[.string e.name,vv,vr,vg]∧gM R w 74 2 vv e.aQ.length (qM e.aQ)∧gM R w 111 2 vr e.res.length (kO e.res)∧gM R w 9 1 vg e.gone.length (bY e.gone):=by
 induction h with
 |nil=>intro i e h;simp at h
 |cons hv hr hg _ ih =>
  intro i e h
  cases i with
  |zero =>
   obtain rfl:=zC (h.symm.trans rfl)
   exact ⟨_,_,_,rfl,hv,hr,hg⟩
  |succ i =>
   obtain ⟨vv,vr,vg,h1,h2⟩:=ih i e (by simpa using h)
   refine ⟨vv,vr,vg,?_,h2⟩
   rw[show (i+1)*4=i*4+4 by omega]
   exact h1
structure Z2 (R:Nat→Prop) (w:World) (m:Ms) (vf vo vm ve vr vg:Value) (nm:ByteArray) (fs:List Fd) (os:List ByteArray) (ms:List Ms) (es:List En) (rs:List (Int×Int)) (gs:List ByteArray) (cm ce:List Value):Prop where
 is:m=.mk nm fs os ms es rs gs
 hf:gM R w 42 6 vf fs.length (fp fs)
 ho:gM R w 9 1 vo os.length (bY os)
 hm:gM R w 46 7 vm ms.length cm
 ej:pa R w cm ms
 he:gM R w 67 4 ve es.length ce
 fl:pd R w ce es
 hr:gM R w 111 2 vr rs.length (kO rs)
 hg:gM R w 9 1 vg gs.length (bY gs)
theorem pa.at {R:Nat→Prop}{w:World}{cs:List Value}{l:List Ms} (h:pa R w cs l):∀(i:Nat) (m:Ms),l[i]?=some m→∃vf vo vm ve vr vg nm fs os ms es rs gs cm ce,(cs.drop (i*7)).take 7=[.string nm,vf,vo,vm,ve,vr,vg]∧Z2 R w m vf vo vm ve vr vg nm fs os ms es rs gs cm ce:=by
 induction h with
 |nil=>intro i e h;simp at h
 |cons hf ho hm ej he fl hr hg _ _ ih =>
  intro i m h
  cases i with
  |zero =>
   obtain rfl:=zC (h.symm.trans rfl)
   exact ⟨_,_,_,_,_,_,_,_,_,_,_,_,_,_,_,rfl,⟨rfl,hf,ho,hm,ej,he,fl,hr,hg⟩⟩
  |succ i =>
   obtain ⟨vf,vo,vm,ve,vr,vg,nm,fs,os,ms,es,rs,gs,cm,ce,h1,h2⟩:=ih i m (by simpa using h)
   refine ⟨vf,vo,vm,ve,vr,vg,nm,fs,os,ms,es,rs,gs,cm,ce,?_,h2⟩
   rw[show (i+1)*7=i*7+7 by omega]
   exact h1
theorem jF {cur:Array Value}{cs L:List Value}{n k i:Nat} (h:cur.toList.take (n*k)=cs) (hl:(cs.drop (i*k)).take k=L) {j:Nat}{x:Value} (hx:L[j]?=some x):cur[i*k+j]?=some x:=by
 rw[←hl,List.getElem?_take,List.getElem?_drop] at hx
 split at hx
 ·rw[←h,List.getElem?_take] at hx
  split at hx
  ·rw[←Array.getElem?_toList];exact hx
  ·cases hx
 ·cases hx
def EnK (B:Nat) (w:World) (n:Nat) (a:Option Addr):Prop:=∀k,k<n→∃g cur nm vv vr vg n1 n2 n3,a=some ⟨g,0,none⟩∧B≤g∧w.heap[g]?=some (.cells cur 67 (0,0))∧cur[k*4]?=some (.string nm)∧cur[k*4+1]?=some vv∧cur[k*4+2]?=some vr∧cur[k*4+3]?=some vg∧Wr B w 74 2 vv n1∧Wr B w 111 2 vr n2∧Wr B w 9 1 vg n3
theorem Ip {B:Nat}{w:World}{v:Value}{l:List En}{cs:List Value} (h:gM (fun g=>B≤g) w 67 4 v l.length cs) (he:pd (fun g=>B≤g) w cs l):∃a c,v=.slice a l.length c∧l.length≤140737488355328∧EnK B w l.length a:=by
 obtain ⟨h1,h0,⟨rfl,e⟩|⟨g,cap,cur,rfl,h2,h3,h4,h5,h6,h7⟩⟩:=h
 ·exact ⟨none,0,by rw[e],h0,fun k hk=>absurd hk (by omega)⟩
 ·refine ⟨_,cap,rfl,h0,fun k hk=>?_⟩
  obtain ⟨vv,vr,vg,dQ,r1,r2,r3⟩:=he.at k _ (List.getElem?_eq_getElem hk)
  exact ⟨g,cur,_,vv,vr,vg,_,_,_,rfl,h2,h3,jF (j:=0) h7 dQ rfl,jF (j:=1) h7 dQ rfl,jF (j:=2) h7 dQ rfl,jF (j:=3) h7 dQ rfl,r1.wr,r2.wr,r3.wr⟩
def MsK (B:Nat) (w:World) (l:List Ms) (a:Option Addr):Prop:=∀i,i<l.length→∃g cur vf vo vm ve vr vg nm fs os ms es rs gs cm ce,a=some ⟨g,0,none⟩∧B≤g∧w.heap[g]?=some (.cells cur 46 (0,0))∧cur[i*7]?=some (.string nm)∧cur[i*7+1]?=some vf∧cur[i*7+2]?=some vo∧cur[i*7+3]?=some vm∧cur[i*7+4]?=some ve∧cur[i*7+5]?=some vr∧cur[i*7+6]?=some vg∧Ms.mk nm fs os ms es rs gs ∈ l∧Z2 (fun g=>B≤g) w (.mk nm fs os ms es rs gs) vf vo vm ve vr vg nm fs os ms es rs gs cm ce
theorem MS {B:Nat}{w:World}{v:Value}{l:List Ms}{cs:List Value} (h:gM (fun g=>B≤g) w 46 7 v l.length cs) (he:pa (fun g=>B≤g) w cs l):∃a c,v=.slice a l.length c∧l.length≤140737488355328∧MsK B w l a:=by
 obtain ⟨h1,h0,⟨rfl,e⟩|⟨g,cap,cur,rfl,h2,h3,h4,h5,h6,h7⟩⟩:=h
 ·exact ⟨none,0,by rw[e],h0,fun k hk=>absurd hk (by omega)⟩
 ·refine ⟨_,cap,rfl,h0,fun k hk=>?_⟩
  obtain ⟨vf,vo,vm,ve,vr,vg,nm,fs,os,ms,es,rs,gs,cm,ce,dQ,hP⟩:=he.at k _ (List.getElem?_eq_getElem hk)
  have e:=hP.is
  rw[e] at hP
  exact ⟨g,cur,vf,vo,vm,ve,vr,vg,nm,fs,os,ms,es,rs,gs,cm,ce,rfl,h2,h3,jF (j:=0) h7 dQ rfl,jF (j:=1) h7 dQ rfl,jF (j:=2) h7 dQ rfl,jF (j:=3) h7 dQ rfl,jF (j:=4) h7 dQ rfl,jF (j:=5) h7 dQ rfl,jF (j:=6) h7 dQ rfl,by rw[←e];exact List.getElem_mem hk,hP⟩
def TI (f:Nat):Prop:=∀(B:Nat) (w:World) (v:Value) (l:List Ms) (cs:List Value),gM (fun g=>B≤g) w 46 7 v l.length cs→pa (fun g=>B≤g) w cs l→(∀m ∈ l,tg f m)→B≤w.heap.size→Calls Tryz.prog 32 #[v] w fun e w'=>e=.returned (.tuple #[])∧Sp B w w'
theorem D4:TI 0:=by
 intro B w v l cs hv ej hd hB
 have e:l=[]:=by cases l with|nil=>rfl|cons m r=>exact (hd m (List.mem_cons_self ..)).elim
 subst e
 obtain ⟨a,c,rfl,-,-⟩:=hv.wr
 simp only[List.length_nil]
 clear hv ej hd hB
 go_enter Tryz.func32,Tryz.ntmps32
 go_wp2
 go_loopg [2,3,4,5,6,7] 1 (fun gk vq _ _ _ _ _ wr=>vq=.int .i64 0∧gk=1∧Hid (wr=w))
 case atStart=>exact ⟨rfl,rfl,rfl⟩
 case round =>
  obtain ⟨rfl,aU,HW⟩:=hrel
  go_wp2
  go_end0
  have:=ab HW
  subst this
  exact ⟨rfl,Sp.refl _ _⟩
theorem xg {f:Nat} (ih:TI f):TI (f+1):=by
 intro B w v l cs hv ej hd hB
 obtain ⟨a,c,rfl,hn,hk⟩:=MS hv ej
 have HK:=al hk
 have Hd:=al hd
 have Fa:=al ih
 have S3:=al hB
 clear hv ej hk hd ih hB
 go_enter Tryz.func32,Tryz.ntmps32
 go_wp2
 go_loopg [2,3,4,5,6,7] l.length (fun gk vq _ _ _ _ _ wr=>∃(i:Nat),vq=.int .i64 (i:Int)∧gk=l.length-i∧i≤l.length∧Hid (Sp B w wr))
 case atStart=>exact ⟨0,rfl,rfl,by omega,Sp.refl _ _⟩
 case round =>
  obtain ⟨i,rfl,aU,hio,HS⟩:=hrel
  have Xr:=al aU
  clear aU
  obtain ⟨wo,iv⟩:∃x,x=wr:=⟨_,rfl⟩
  subst iv
  by_cases aM:i<l.length
  ·obtain ⟨g,cur,vf,vo,vm,ve,vr,vg,nm,fs,os,ms,es,rs,gs,cm,ce,rfl,hg,hh,e0,e1,e2,e3,e4,e5,e6,cG,hP⟩:=ab HK i aM
   obtain ⟨x3,y3,z3⟩:=hP.hm.sp (fun _ h=>h) (ab HS)
   obtain ⟨l3,p3,q3⟩:=hP.ej.sp (fun _ h=>h) (ab HS) 0 x3 rfl z3
   rw[←q3.len] at y3
   have HC:=al (ab Fa B wo vm l3 x3 y3 p3 (q3.dp f (ab Hd _ cG)) (Nat.le_trans (ab S3) (ab HS).bV.size))
   clear y3 z3 p3 q3 cG
   obtain ⟨af,cf,rfl,nf,kf⟩:=hP.hf.wr
   obtain ⟨ao,co,rfl,no,ko⟩:=hP.ho.wr
   obtain ⟨am,dh,rfl,Jl,km⟩:=hP.hm.wr
   obtain ⟨ae,dc,rfl,ne,ke⟩:=Ip hP.he hP.fl
   obtain ⟨ar,cr,rfl,nr,kr⟩:=hP.hr.wr
   obtain ⟨ag,cg,rfl,ng,kg⟩:=hP.hg.wr
   have HX:Hid (∀w',Sp B w w'→w'.cell? ⟨g,i*7+1,none⟩=some (.slice af fs.length cf)∧w'.cell? ⟨g,i*7+2,none⟩=some (.slice ao os.length co)∧w'.cell? ⟨g,i*7+3,none⟩=some (.slice am ms.length dh)∧w'.cell? ⟨g,i*7+4,none⟩=some (.slice ae es.length dc)∧w'.cell? ⟨g,i*7+5,none⟩=some (.slice ar rs.length cr)∧w'.cell? ⟨g,i*7+6,none⟩=some (.slice ag gs.length cg)):=fun w' h=>⟨h.cell hg hh e1 (fun y hy=>by have:=(gw hy).1;omega),h.cell hg hh e2 (fun y hy=>by have:=(gw hy).1;omega),h.cell hg hh e3 (fun y hy=>by have:=(gw hy).1;omega),h.cell hg hh e4 (fun y hy=>by have:=(gw hy).1;omega),h.cell hg hh e5 (fun y hy=>by have:=(gw hy).1;omega),h.cell hg hh e6 (fun y hy=>by have:=(gw hy).1;omega)⟩
   have HQ0:Hid (∀w',Sp B w w'→∃s',w'.cell? ⟨g,i*7,none⟩=some (.string s')∧w'.frozen? ⟨g,i*7,none⟩=false):=fun w' h=>h.text hg hh e0 (fun y hy=>(gw hy).2)
   have ym:Hid (∀w',Sp B w w'→Sp B w (w'.setCell ⟨g,i*7,none⟩ (.string ⟨#[115,112,111,105,108,116]⟩))):=fun w' h=>by
    obtain ⟨c',h5,-,-⟩:=h.dj g cur _ hg hh
    exact (Sp.put h ⟨_,h5⟩ hg (Qy (by omega))).1
   have Kf:=al kf
   have Ko:=al ko
   have Ke:=al ke
   have Kr:=al kr
   have Kg:=al kg
   obtain ⟨x1,x2,x3,x4,x5,x6⟩:=ab HX wo (ab HS)
   have j0:(0:Int)≤(i:Int):=zH _
   have j1:(i:Int)<(l.length:Int):=by omega
   have St:=al aM
   clear hP kf ko km ke kr kg hh hg e0 e1 e2 e3 e4 e5 e6 aM
   go_wp2_with fail
   refine (ab HC).mono ?_
   rintro e' w2 ⟨rfl,gj⟩
   have DM:=al ((ab HS).trans gj)
   clear gj HC HS x1 x2 x3 x4 x5 x6
   obtain ⟨x1,x2,x3,x4,x5,x6⟩:=ab HX w2 (ab DM)
   go_wp2
   go_loopg [3] es.length (fun gk vq wr=>∃(k:Nat),vq=.int .i64 (k:Int)∧gk=es.length-k∧k≤es.length∧Hid (Sp B w wr))
   case atStart=>exact ⟨0,rfl,rfl,by omega,ab DM⟩
   case round =>
    obtain ⟨k,rfl,aU,eO,pV⟩:=hrel
    have bz:=al aU
    clear aU DM
    clear x1 x2 x3 x4 x5 x6
    obtain ⟨x1,x2,x3,x4,x5,x6⟩:=ab HX wr (ab pV)
    by_cases aM:k<es.length
    ·obtain ⟨g2,Iu,xw,vv,Ba,Bc,n1,n2,n3,rfl,ed,A1,e0,e1,e2,e3,r1,r2,r3⟩:=ab Ke k aM
     have HC:=al (fun s':ByteArray=>mN (nm:=s') r1 r2 r3 (ab S3) (ab pV))
     obtain ⟨b1,d1,rfl,-,-⟩:=r1
     obtain ⟨b2,d2,rfl,-,-⟩:=r2
     obtain ⟨b3,d3,rfl,-,-⟩:=r3
     have HQ:Hid (∀w',Sp B w w'→∃s',w'.cell? ⟨g2,k*4,none⟩=some (.string s')∧w'.frozen? ⟨g2,k*4,none⟩=false):=fun w' h=>h.text ed A1 e0 (fun y hy=>(fL hy).2)
     have q1:=(ab pV).cell ed A1 e1 (fun y hy=>by have:=(fL hy).1;omega)
     have q2:=(ab pV).cell ed A1 e2 (fun y hy=>by have:=(fL hy).1;omega)
     have q3:=(ab pV).cell ed A1 e3 (fun y hy=>by have:=(fL hy).1;omega)
     obtain ⟨s',q0,z0⟩:=ab HQ wr (ab pV)
     have HT:Hid (∀w',Sp B w w'→Sp B w (w'.setCell ⟨g2,k*4,none⟩ (.string ⟨#[115,112,111,105,108,116]⟩))):=fun w' h=>by
      obtain ⟨c',h5,-,-⟩:=h.dj g2 Iu _ ed A1
      exact (Sp.put h ⟨_,h5⟩ ed (LD (by omega))).1
     have i0:(0:Int)≤(k:Int):=zH _
     have i1:(k:Int)<(es.length:Int):=by omega
     have bu:=al aM
     clear A1 ed e0 e1 e2 e3 aM z0
     go_wp2_with fail
     refine (ab HC s').mono ?_
     rintro e' w2 ⟨rfl,gj⟩
     have yn:=al ((ab pV).trans gj)
     clear gj HC q0 q1 q2 q3 pV
     clear x1 x2 x3 x4 x5 x6
     obtain ⟨x1,x2,x3,x4,x5,x6⟩:=ab HX w2 (ab yn)
     obtain ⟨s2,q0,z0⟩:=ab HQ w2 (ab yn)
     have uO:=al (ab HT w2 (ab yn))
     go_wp2
     go_roundg (es.length-(k+1))
     case measure=>have:=ab bz;have:=ab bu;omega
     case rel=>exact ⟨k+1,by go_num,rfl,ab bu,ab uO⟩
    ·obtain rfl:k=es.length:=by omega
     obtain ⟨Yl,iv⟩:∃x,x=wr:=⟨_,rfl⟩
     subst iv
     clear aM eO bz
     go_wp2
     go_loopg [4] fs.length (fun gk vq wr=>∃(k:Nat),vq=.int .i64 (k:Int)∧gk=fs.length-k∧k≤fs.length∧Hid (Sp B w wr))
     case atStart=>exact ⟨0,rfl,rfl,by omega,ab pV⟩
     case round =>
      obtain ⟨k,rfl,aU,eO,JC⟩:=hrel
      have bz:=al aU
      clear aU pV
      clear x1 x2 x3 x4 x5 x6
      obtain ⟨x1,x2,x3,x4,x5,x6⟩:=ab HX wr (ab JC)
      by_cases aM:k<fs.length
      ·obtain ⟨g,cur,rfl,hg,hh,hn⟩:=ab Kf (by omega)
       obtain ⟨iH,jV,lz,-⟩:=(ab JC).dj g cur _ hg hh
       obtain ⟨y0,d0,z0⟩:=ec (j:=k*6) jV (by omega)
       obtain ⟨y1,d1,z1⟩:=ec (j:=k*6+1) jV (by omega)
       obtain ⟨y2,d2,z2⟩:=ec (j:=k*6+2) jV (by omega)
       obtain ⟨y3,d3,z3⟩:=ec (j:=k*6+3) jV (by omega)
       obtain ⟨y4,d4,z4⟩:=ec (j:=k*6+4) jV (by omega)
       obtain ⟨y5,d5,z5⟩:=ec (j:=k*6+5) jV (by omega)
       obtain ⟨s0,t0⟩:=Sp.put (ab JC) (⟨_,jV⟩:np wr g 42) hg (j:=k*6) (y:=.int .i64 1) (Bp _ (by omega))
       obtain ⟨s1,t1⟩:=Sp.put s0 t0 hg (j:=k*6+1) (y:=.string ⟨#[]⟩) (Bo (by decide) (by omega))
       obtain ⟨s2,t2⟩:=Sp.put s1 t1 hg (j:=k*6+2) (y:=.string ⟨#[120]⟩) (Bo (by decide) (by omega))
       obtain ⟨s3,t3⟩:=Sp.put s2 t2 hg (j:=k*6+3) (y:=.string ⟨#[115,112,111,105,108,116]⟩) (Bo (by decide) (by omega))
       obtain ⟨s4,t4⟩:=Sp.put s3 t3 hg (j:=k*6+4) (y:=.int .i64 0) (Bp _ (by omega))
       obtain ⟨s5,t5⟩:=Sp.put s4 t4 hg (j:=k*6+5) (y:=.int .i64 0) (Bp _ (by omega))
       have uO:=al s5
       have i0:(0:Int)≤(k:Int):=zH _
       have i1:(k:Int)<(fs.length:Int):=by omega
       have bu:=al aM
       clear hh hg hn jV lz aM s0 t0 s1 t1 s2 t2 s3 t3 s4 t4 s5 t5
       go_wp2
       go_roundg (fs.length-(k+1))
       case measure=>have:=ab bz;have:=ab bu;omega
       case rel=>exact ⟨k+1,by go_num,rfl,ab bu,ab uO⟩
      ·obtain rfl:k=fs.length:=by omega
       obtain ⟨woc,iv⟩:∃x,x=wr:=⟨_,rfl⟩
       subst iv
       clear aM eO bz
       go_wp2
       go_loopg [5] os.length (fun gk vq wr=>∃(k:Nat),vq=.int .i64 (k:Int)∧gk=os.length-k∧k≤os.length∧Hid (Sp B w wr))
       case atStart=>exact ⟨0,rfl,rfl,by omega,ab JC⟩
       case round =>
        obtain ⟨k,rfl,aU,eO,SD⟩:=hrel
        have bz:=al aU
        clear aU JC
        clear x1 x2 x3 x4 x5 x6
        obtain ⟨x1,x2,x3,x4,x5,x6⟩:=ab HX wr (ab SD)
        by_cases aM:k<os.length
        ·obtain ⟨g,cur,rfl,hg,hh,hn⟩:=ab Ko (by omega)
         obtain ⟨iH,jV,lz,-⟩:=(ab SD).dj g cur _ hg hh
         obtain ⟨y0,d0,z0⟩:=ec (j:=k) jV (by omega)
         obtain ⟨s0,t0⟩:=Sp.put (ab SD) (⟨_,jV⟩:np wr g 9) hg (j:=k) (y:=.string ⟨#[115,112,111,105,108,116]⟩) (CU _)
         have uO:=al s0
         have i0:(0:Int)≤(k:Int):=zH _
         have i1:(k:Int)<(os.length:Int):=by omega
         have bu:=al aM
         clear hh hg hn jV lz aM s0 t0
         go_wp2
         go_roundg (os.length-(k+1))
         case measure=>have:=ab bz;have:=ab bu;omega
         case rel=>exact ⟨k+1,by go_num,rfl,ab bu,ab uO⟩
        ·obtain rfl:k=os.length:=by omega
         obtain ⟨wod,iv⟩:∃x,x=wr:=⟨_,rfl⟩
         subst iv
         clear aM eO bz
         go_wp2
         go_loopg [6] rs.length (fun gk vq wr=>∃(k:Nat),vq=.int .i64 (k:Int)∧gk=rs.length-k∧k≤rs.length∧Hid (Sp B w wr))
         case atStart=>exact ⟨0,rfl,rfl,by omega,ab SD⟩
         case round =>
          obtain ⟨k,rfl,aU,eO,SC⟩:=hrel
          have bz:=al aU
          clear aU SD
          clear x1 x2 x3 x4 x5 x6
          obtain ⟨x1,x2,x3,x4,x5,x6⟩:=ab HX wr (ab SC)
          by_cases aM:k<rs.length
          ·obtain ⟨g,cur,rfl,hg,hh,hn⟩:=ab Kr (by omega)
           obtain ⟨iH,jV,lz,-⟩:=(ab SC).dj g cur _ hg hh
           obtain ⟨y0,d0,z0⟩:=ec (j:=k*2) jV (by omega)
           obtain ⟨y1,d1,z1⟩:=ec (j:=k*2+1) jV (by omega)
           obtain ⟨s0,t0⟩:=Sp.put (ab SC) (⟨_,jV⟩:np wr g 111) hg (j:=k*2) (y:=.int .i64 3) (CV _ _)
           obtain ⟨s1,t1⟩:=Sp.put s0 t0 hg (j:=k*2+1) (y:=.int .i64 4) (CV _ _)
           have uO:=al s1
           have i0:(0:Int)≤(k:Int):=zH _
           have i1:(k:Int)<(rs.length:Int):=by omega
           have bu:=al aM
           clear hh hg hn jV lz aM s0 t0 s1 t1
           go_wp2
           go_roundg (rs.length-(k+1))
           case measure=>have:=ab bz;have:=ab bu;omega
           case rel=>exact ⟨k+1,by go_num,rfl,ab bu,ab uO⟩
          ·obtain rfl:k=rs.length:=by omega
           obtain ⟨woe,iv⟩:∃x,x=wr:=⟨_,rfl⟩
           subst iv
           clear aM eO bz
           go_wp2
           go_loopg [7] gs.length (fun gk vq wr=>∃(k:Nat),vq=.int .i64 (k:Int)∧gk=gs.length-k∧k≤gs.length∧Hid (Sp B w wr))
           case atStart=>exact ⟨0,rfl,rfl,by omega,ab SC⟩
           case round =>
            obtain ⟨k,rfl,aU,eO,SB⟩:=hrel
            have bz:=al aU
            clear aU SC
            clear x1 x2 x3 x4 x5 x6
            obtain ⟨x1,x2,x3,x4,x5,x6⟩:=ab HX wr (ab SB)
            by_cases aM:k<gs.length
            ·obtain ⟨g,cur,rfl,hg,hh,hn⟩:=ab Kg (by omega)
             obtain ⟨iH,jV,lz,-⟩:=(ab SB).dj g cur _ hg hh
             obtain ⟨y0,d0,z0⟩:=ec (j:=k) jV (by omega)
             obtain ⟨s0,t0⟩:=Sp.put (ab SB) (⟨_,jV⟩:np wr g 9) hg (j:=k) (y:=.string ⟨#[115,112,111,105,108,116]⟩) (CU _)
             have uO:=al s0
             have i0:(0:Int)≤(k:Int):=zH _
             have i1:(k:Int)<(gs.length:Int):=by omega
             have bu:=al aM
             clear hh hg hn jV lz aM s0 t0
             go_wp2
             go_roundg (gs.length-(k+1))
             case measure=>have:=ab bz;have:=ab bu;omega
             case rel=>exact ⟨k+1,by go_num,rfl,ab bu,ab uO⟩
            ·obtain rfl:k=gs.length:=by omega
             obtain ⟨wof,iv⟩:∃x,x=wr:=⟨_,rfl⟩
             subst iv
             clear aM eO bz
             obtain ⟨s2,q0,z0⟩:=ab HQ0 _ (ab SB)
             have uO:=al (ab ym _ (ab SB))
             go_wp2
             go_roundg (l.length-(i+1))
             case measure=>have:=ab Xr;have:=ab St;omega
             case rel=>exact ⟨i+1,by go_num,rfl,ab St,ab uO⟩
  ·obtain rfl:i=l.length:=by omega
   go_wp2
   go_end0
   exact ⟨rfl,ab HS⟩
theorem qf:∀f,TI f
 |0=>D4
 |f+1=>xg (qf f)
end Go.Proofs.YtichhjfjcinjgaaGreatDoor

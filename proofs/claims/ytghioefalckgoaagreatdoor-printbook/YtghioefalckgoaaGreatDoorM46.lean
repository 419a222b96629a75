import Derived.Test.YtghioefalckgoaaGreatDoorYEa
set_option maxHeartbeats 8000000
set_option maxRecDepth 100000
namespace Go.Proofs.YtghioefalckgoaaGreatDoor
open Go.RowKit
attribute [local go_sem ↓] Go.wp_at_zero Go.wp_at_succ
def Sw (B:Nat→Prop) (w:World) (e size n:Nat) (a:Option Addr):Prop:=0<n→∃g cur,a=some ⟨g,0,none⟩∧B g∧w.heap[g]?=some (.cells cur e (0,0))∧n*size≤cur.size
def Wr (B:Nat→Prop) (w:World) (e size:Nat) (v:Value) (n:Nat):Prop:=∃a c,v=.slice a n c∧n≤140737488355328∧Sw B w e size n a
theorem Sw.up {B:Nat→Prop}{w w':World}{e size n:Nat}{a:Option Addr} (h:Sw B w e size n a) (hs:Sp B w w'):Sw B w' e size n a:=fun hn=>by
 obtain ⟨g,cur,h1,h2,h3,h4⟩:=h hn
 obtain ⟨c',h5,h6,-⟩:=hs.cH g cur e h3
 exact ⟨g,c',h1,h2,h5,by rw[h6];exact h4⟩
theorem Wr.up {B:Nat→Prop}{w w':World}{e size n:Nat}{v:Value} (h:Wr B w e size v n) (hs:Sp B w w'):Wr B w' e size v n:=by
 obtain ⟨a,c,h1,h2,h3⟩:=h
 exact ⟨a,c,h1,h2,h3.up hs⟩
theorem fW.wr {B:Nat→Prop}{w:World}{e size n:Nat}{v:Value}{xs:List Value} (h:fW B w e size v n xs):Wr B w e size v n:=by
 obtain ⟨h1,h0,⟨rfl,rfl⟩|⟨g,cap,cur,rfl,h2,h3,h4,h5,h6,h7⟩⟩:=h
 ·exact ⟨none,0,rfl,h0,fun h=>absurd h (by omega)⟩
 ·exact ⟨_,cap,rfl,h0,fun _=>⟨g,cur,rfl,h2,h3,by rw[h6];exact Nat.mul_le_mul_right _ h4⟩⟩
def nv (w:World) (g t:Nat):Prop:=∃cs,w.heap[g]?=some (.cells cs t (0,0))
theorem Sp.put {B:Nat→Prop}{V w:World}{g t j:Nat}{y:Value} (h:Sp B V w) (ht:nv w g t) (hg:B g) (hy:vQ t j y):Sp B V (w.setCell ⟨g,j,none⟩ y)∧nv (w.setCell ⟨g,j,none⟩ y) g t:=by
 obtain ⟨cs,hh⟩:=ht
 exact ⟨h.trans (Sp.set hh hg hy),_,(aI hh y).1⟩
theorem dw {w:World}{g t j:Nat}{cs:Array Value} (hh:w.heap[g]?=some (.cells cs t (0,0))) (hj:j<cs.size):∃y,w.cell? ⟨g,j,none⟩=some y∧w.frozen? ⟨g,j,none⟩=false:=by
 refine ⟨cs[j],?_,by simp[World.frozen?,hh]⟩
 rw[cell_of_row _ _ _ _ _ _ hh]
 exact Array.getElem?_eq_getElem hj
theorem Sp.cell {B:Nat→Prop}{w w':World} (h:Sp B w w') {g t j:Nat}{cs:Array Value}{x:Value} (hh:w.heap[g]?=some (.cells cs t (0,0))) (hx:cs[j]?=some x) (hn:∀y,¬vQ t j y):w'.cell? ⟨g,j,none⟩=some x:=by
 obtain ⟨c',h5,h6,h7⟩:=h.cH g cs t hh
 rw[cell_of_row _ _ _ _ _ _ h5]
 rcases h7 j x hx with e|⟨y,-,hy⟩
 ·exact e
 ·exact absurd hy (hn y)
theorem Sp.text {B:Nat→Prop}{w w':World} (h:Sp B w w') {g t j:Nat}{cs:Array Value}{s:ByteArray} (hh:w.heap[g]?=some (.cells cs t (0,0))) (hx:cs[j]?=some (.string s)) (hn:∀y,vQ t j y→xE y):∃s',w'.cell? ⟨g,j,none⟩=some (.string s')∧w'.frozen? ⟨g,j,none⟩=false:=by
 obtain ⟨c',h5,h6,h7⟩:=h.cH g cs t hh
 rw[cell_of_row _ _ _ _ _ _ h5]
 have hf:w'.frozen? ⟨g,j,none⟩=false:=by simp[World.frozen?,h5]
 rcases h7 j _ hx with e|⟨y,e,hy⟩
 ·exact ⟨s,e,hf⟩
 ·obtain ⟨s',rfl,-⟩:=hn y hy
  exact ⟨s',e,hf⟩
theorem DK {s:ByteArray} (o:Nat) (h:s.size≤8:=by decide):vQ 9 o (.string s):=.inl ⟨rfl,_,rfl,h⟩
theorem DL (o:Nat) (x:Int):vQ 83 o (.int .i64 x):=.inr (.inl ⟨rfl,_,rfl⟩)
theorem Qb {s:ByteArray}{o:Nat} (ho:o % 2=0) (h:s.size≤8:=by decide):vQ 65 o (.string s):=.inr (.inr (.inl ⟨rfl,.inl ⟨ho,_,rfl,h⟩⟩))
theorem Qa {o:Nat} (x:Int) (ho:o % 2=1):vQ 65 o (.int .i64 x):=.inr (.inr (.inl ⟨rfl,.inr ⟨ho,_,rfl⟩⟩))
theorem Cj {o:Nat} (x:Int) (ho:o % 6=0∨o % 6=4∨o % 6=5):vQ 53 o (.int .i64 x):=.inr (.inr (.inr (.inl ⟨rfl,.inl ⟨ho,_,rfl⟩⟩)))
theorem Ch {s:ByteArray}{o:Nat} (h:s.size≤8) (ho:o % 6=1∨o % 6=2∨o % 6=3):vQ 53 o (.string s):=.inr (.inr (.inr (.inl ⟨rfl,.inr ⟨ho,_,rfl,h⟩⟩)))
theorem Uy {s:ByteArray}{o:Nat} (ho:o % 7=0) (h:s.size≤8:=by decide):vQ 57 o (.string s):=.inr (.inr (.inr (.inr (.inl ⟨rfl,ho,_,rfl,h⟩))))
theorem OG {s:ByteArray}{o:Nat} (ho:o % 4=0) (h:s.size≤8:=by decide):vQ 63 o (.string s):=.inr (.inr (.inr (.inr (.inr ⟨rfl,ho,_,rfl,h⟩))))
theorem mU {B:Nat→Prop}{w w0:World}{nm:ByteArray}{vv vr vg:Value}{n1 n2 n3:Nat} (h1:Wr B w 65 2 vv n1) (h2:Wr B w 83 2 vr n2) (h3:Wr B w 9 1 vg n3) (hs:Sp B w w0) :
  Calls Tryz.prog 38 #[.agg #[.string nm,vv,vr,vg]] w0 fun e w'=>e=.returned (.tuple #[])∧Sp B w0 w':=by
 obtain ⟨a1,c1,rfl,m1,k1⟩:=h1.up hs
 obtain ⟨a2,c2,rfl,m2,k2⟩:=h2.up hs
 obtain ⟨a3,c3,rfl,m3,k3⟩:=h3.up hs
 have kb:=aE w0 (.cells #[.string nm,.slice a1 n1 c1,.slice a2 n2 c2,.slice a3 n3 c3] 63)
 have hb:Sp B w0 (w0.alloc (.cells #[.string nm,.slice a1 n1 c1,.slice a2 n2 c2,.slice a3 n3 c3] 63)):=(Sp.refl _ _).alloc _
 obtain ⟨V,hV⟩:∃V,w0.alloc (.cells #[.string nm,.slice a1 n1 c1,.slice a2 n2 c2,.slice a3 n3 c3] 63)=V:=⟨_,rfl⟩
 rw[hV] at kb hb
 have HX:Hid (∀w',Sp B V w'→w'.cell? ⟨w0.heap.size,1,none⟩=some (.slice a1 n1 c1)∧w'.cell? ⟨w0.heap.size,2,none⟩=some (.slice a2 n2 c2)∧w'.cell? ⟨w0.heap.size,3,none⟩=some (.slice a3 n3 c3)):=fun w' h=>⟨h.cell kb (j:=1) rfl (fun y hy=>by have:=(fh hy).1;omega),h.cell kb (j:=2) rfl (fun y hy=>by have:=(fh hy).1;omega),h.cell kb (j:=3) rfl (fun y hy=>by have:=(fh hy).1;omega)⟩
 have K1:=ak (Sw.up k1 hb)
 have K2:=ak (Sw.up k2 hb)
 have K3:=ak (Sw.up k3 hb)
 have HB:=ak hb
 have EB:=ak (Sp.refl B V)
 obtain ⟨x1,x2,x3⟩:=ab HX V (ab EB)
 clear h1 h2 h3 hs kb hb k1 k2 k3
 go_enter Tryz.func38,Tryz.ntmps38
 go_wp2
 go_loopg [2] n1 (fun gk vq wr=>∃(k:Nat),vq=.int .i64 (k:Int)∧gk=n1-k∧k≤n1∧Hid (Sp B V wr))
 case atStart=>exact ⟨0,rfl,rfl,by omega,ab EB⟩
 case round =>
  obtain ⟨k,rfl,bd,fY,Le⟩:=hrel
  have bH:=ak bd
  clear bd EB
  clear x1 x2 x3
  obtain ⟨x1,x2,x3⟩:=ab HX wr (ab Le)
  by_cases aU:k<n1
  ·obtain ⟨g,cur,rfl,hg,hh,hn⟩:=ab K1 (by omega)
   obtain ⟨fI,jP,iL,-⟩:=(ab Le).cH g cur _ hh
   obtain ⟨y0,d0,z0⟩:=dw (j:=k*2) jP (by omega)
   obtain ⟨y1,d1,z1⟩:=dw (j:=k*2+1) jP (by omega)
   obtain ⟨s0,t0⟩:=Sp.put (ab Le) (⟨_,jP⟩:nv wr g 65) hg (j:=k*2) (y:=.string ⟨#[115,112,111,105,108,116]⟩) (Qb (by omega))
   obtain ⟨s1,t1⟩:=Sp.put s0 t0 hg (j:=k*2+1) (y:=.int .i64 7) (Qa _ (by omega))
   have vV:=ak s1
   have i0:(0:Int)≤(k:Int):=zH _
   have i1:(k:Int)<(n1:Int):=by omega
   have bn:=ak aU
   clear hh hg hn jP iL aU s0 t0 s1 t1
   go_wp2
   go_roundg (n1-(k+1))
   case measure=>have:=ab bH;have:=ab bn;omega
   case rel=>exact ⟨k+1,by go_num,rfl,ab bn,ab vV⟩
  ·obtain rfl:k=n1:=by omega
   obtain ⟨woa,lM⟩:∃x,x=wr:=⟨_,rfl⟩
   subst lM
   clear aU fY bH
   go_wp2
   go_loopg [3] n2 (fun gk vq wr=>∃(k:Nat),vq=.int .i64 (k:Int)∧gk=n2-k∧k≤n2∧Hid (Sp B V wr))
   case atStart=>exact ⟨0,rfl,rfl,by omega,ab Le⟩
   case round =>
    obtain ⟨k,rfl,bd,fY,qu⟩:=hrel
    have bH:=ak bd
    clear bd Le
    clear x1 x2 x3
    obtain ⟨x1,x2,x3⟩:=ab HX wr (ab qu)
    by_cases aU:k<n2
    ·obtain ⟨g,cur,rfl,hg,hh,hn⟩:=ab K2 (by omega)
     obtain ⟨fI,jP,iL,-⟩:=(ab qu).cH g cur _ hh
     obtain ⟨y0,d0,z0⟩:=dw (j:=k*2) jP (by omega)
     obtain ⟨y1,d1,z1⟩:=dw (j:=k*2+1) jP (by omega)
     obtain ⟨s0,t0⟩:=Sp.put (ab qu) (⟨_,jP⟩:nv wr g 83) hg (j:=k*2) (y:=.int .i64 1) (DL _ _)
     obtain ⟨s1,t1⟩:=Sp.put s0 t0 hg (j:=k*2+1) (y:=.int .i64 2) (DL _ _)
     have vV:=ak s1
     have i0:(0:Int)≤(k:Int):=zH _
     have i1:(k:Int)<(n2:Int):=by omega
     have bn:=ak aU
     clear hh hg hn jP iL aU s0 t0 s1 t1
     go_wp2
     go_roundg (n2-(k+1))
     case measure=>have:=ab bH;have:=ab bn;omega
     case rel=>exact ⟨k+1,by go_num,rfl,ab bn,ab vV⟩
    ·obtain rfl:k=n2:=by omega
     obtain ⟨wob,lM⟩:∃x,x=wr:=⟨_,rfl⟩
     subst lM
     clear aU fY bH
     go_wp2
     go_loopg [4] n3 (fun gk vq wr=>∃(k:Nat),vq=.int .i64 (k:Int)∧gk=n3-k∧k≤n3∧Hid (Sp B V wr))
     case atStart=>exact ⟨0,rfl,rfl,by omega,ab qu⟩
     case round =>
      obtain ⟨k,rfl,bd,fY,LO⟩:=hrel
      have bH:=ak bd
      clear bd qu
      clear x1 x2 x3
      obtain ⟨x1,x2,x3⟩:=ab HX wr (ab LO)
      by_cases aU:k<n3
      ·obtain ⟨g,cur,rfl,hg,hh,hn⟩:=ab K3 (by omega)
       obtain ⟨fI,jP,iL,-⟩:=(ab LO).cH g cur _ hh
       obtain ⟨y0,d0,z0⟩:=dw (j:=k) jP (by omega)
       obtain ⟨s0,t0⟩:=Sp.put (ab LO) (⟨_,jP⟩:nv wr g 9) hg (j:=k) (y:=.string ⟨#[115,112,111,105,108,116]⟩) (DK _)
       have vV:=ak s0
       have i0:(0:Int)≤(k:Int):=zH _
       have i1:(k:Int)<(n3:Int):=by omega
       have bn:=ak aU
       clear hh hg hn jP iL aU s0 t0
       go_wp2
       go_roundg (n3-(k+1))
       case measure=>have:=ab bH;have:=ab bn;omega
       case rel=>exact ⟨k+1,by go_num,rfl,ab bn,ab vV⟩
      ·obtain rfl:k=n3:=by omega
       obtain ⟨woc,lM⟩:∃x,x=wr:=⟨_,rfl⟩
       subst lM
       clear aU fY bH
       go_wp2
       go_end0
       exact ⟨rfl,(ab HB).trans (ab LO)⟩
theorem py.at {R:Nat→Prop}{w:World}{cs:List Value}{l:List En} (h:py R w cs l):∀(i:Nat) (e:En),l[i]?=some e→∃vv vr vg,(cs.drop (i*4)).take 4=[.string e.name,vv,vr,vg]∧fW R w 65 2 vv e.aW.length (mR e.aW)∧fW R w 83 2 vr e.res.length (eP e.res)∧fW R w 9 1 vg e.gone.length (bj e.gone):=by
 induction h with
 |nil=>intro i e h;simp at h
 |cons hv hr hg _ ih =>
  intro i e h
  cases i with
  |zero =>
   obtain rfl:=zC (h.symm.trans rfl)
   exact ⟨_,_,_,rfl,hv,hr,hg⟩
  |succ i =>
   obtain ⟨vv,vr,vg,h1,h2⟩:=ih i e (by simpa using h)
   refine ⟨vv,vr,vg,?_,h2⟩
   rw[show (i+1)*4=i*4+4 by omega]
   exact h1
structure MsP (R:Nat→Prop) (w:World) (m:Ms) (vf vo vm ve vr vg:Value) (nm:ByteArray) (fs:List Fd) (os:List ByteArray) (ms:List Ms) (es:List En) (rs:List (Int×Int)) (gs:List ByteArray) (cm ce:List Value):Prop where
 is:m=.mk nm fs os ms es rs gs
 hf:fW R w 53 6 vf fs.length (cC fs)
 ho:fW R w 9 1 vo os.length (bj os)
 hm:fW R w 57 7 vm ms.length cm
 eI:pr R w cm ms
 he:fW R w 63 4 ve es.length ce
 ep:py R w ce es
 hr:fW R w 83 2 vr rs.length (eP rs)
 hg:fW R w 9 1 vg gs.length (bj gs)
theorem pr.at {R:Nat→Prop}{w:World}{cs:List Value}{l:List Ms} (h:pr R w cs l):∀(i:Nat) (m:Ms),l[i]?=some m→∃vf vo vm ve vr vg nm fs os ms es rs gs cm ce,(cs.drop (i*7)).take 7=[.string nm,vf,vo,vm,ve,vr,vg]∧MsP R w m vf vo vm ve vr vg nm fs os ms es rs gs cm ce:=by
 induction h with
 |nil=>intro i e h;simp at h
 |cons hf ho hm eI he ep hr hg _ _ ih =>
  intro i m h
  cases i with
  |zero =>
   obtain rfl:=zC (h.symm.trans rfl)
   exact ⟨_,_,_,_,_,_,_,_,_,_,_,_,_,_,_,rfl,⟨rfl,hf,ho,hm,eI,he,ep,hr,hg⟩⟩
  |succ i =>
   obtain ⟨vf,vo,vm,ve,vr,vg,nm,fs,os,ms,es,rs,gs,cm,ce,h1,h2⟩:=ih i m (by simpa using h)
   refine ⟨vf,vo,vm,ve,vr,vg,nm,fs,os,ms,es,rs,gs,cm,ce,?_,h2⟩
   rw[show (i+1)*7=i*7+7 by omega]
   exact h1
theorem jw {cur:Array Value}{cs L:List Value}{n k i:Nat} (h:cur.toList.take (n*k)=cs) (hl:(cs.drop (i*k)).take k=L) {j:Nat}{x:Value} (hx:L[j]?=some x):cur[i*k+j]?=some x:=by
 rw[←hl,List.getElem?_take,List.getElem?_drop] at hx
 split at hx
 ·rw[←h,List.getElem?_take] at hx
  split at hx
  ·rw[←Array.getElem?_toList];exact hx
  ·cases hx
 ·cases hx
def EnK (B:Nat→Prop) (w:World) (n:Nat) (a:Option Addr):Prop:=∀k,k<n→∃g cur nm vv vr vg n1 n2 n3,a=some ⟨g,0,none⟩∧B g∧w.heap[g]?=some (.cells cur 63 (0,0))∧cur[k*4]?=some (.string nm)∧cur[k*4+1]?=some vv∧cur[k*4+2]?=some vr∧cur[k*4+3]?=some vg∧Wr B w 65 2 vv n1∧Wr B w 83 2 vr n2∧Wr B w 9 1 vg n3
theorem Ks {B:Nat→Prop}{w:World}{v:Value}{l:List En}{cs:List Value} (h:fW B w 63 4 v l.length cs) (he:py B w cs l):∃a c,v=.slice a l.length c∧l.length≤140737488355328∧EnK B w l.length a:=by
 obtain ⟨h1,h0,⟨rfl,e⟩|⟨g,cap,cur,rfl,h2,h3,h4,h5,h6,h7⟩⟩:=h
 ·exact ⟨none,0,by rw[e],h0,fun k hk=>absurd hk (by omega)⟩
 ·refine ⟨_,cap,rfl,h0,fun k hk=>?_⟩
  obtain ⟨vv,vr,vg,gD,r1,r2,r3⟩:=he.at k _ (List.getElem?_eq_getElem hk)
  exact ⟨g,cur,_,vv,vr,vg,_,_,_,rfl,h2,h3,jw (j:=0) h7 gD rfl,jw (j:=1) h7 gD rfl,jw (j:=2) h7 gD rfl,jw (j:=3) h7 gD rfl,r1.wr,r2.wr,r3.wr⟩
def MsK (B:Nat→Prop) (w:World) (l:List Ms) (a:Option Addr):Prop:=∀i,i<l.length→∃g cur vf vo vm ve vr vg nm fs os ms es rs gs cm ce,a=some ⟨g,0,none⟩∧B g∧w.heap[g]?=some (.cells cur 57 (0,0))∧cur[i*7]?=some (.string nm)∧cur[i*7+1]?=some vf∧cur[i*7+2]?=some vo∧cur[i*7+3]?=some vm∧cur[i*7+4]?=some ve∧cur[i*7+5]?=some vr∧cur[i*7+6]?=some vg∧Ms.mk nm fs os ms es rs gs ∈ l∧MsP B w (.mk nm fs os ms es rs gs) vf vo vm ve vr vg nm fs os ms es rs gs cm ce
theorem Qp {B:Nat→Prop}{w:World}{v:Value}{l:List Ms}{cs:List Value} (h:fW B w 57 7 v l.length cs) (he:pr B w cs l):∃a c,v=.slice a l.length c∧l.length≤140737488355328∧MsK B w l a:=by
 obtain ⟨h1,h0,⟨rfl,e⟩|⟨g,cap,cur,rfl,h2,h3,h4,h5,h6,h7⟩⟩:=h
 ·exact ⟨none,0,by rw[e],h0,fun k hk=>absurd hk (by omega)⟩
 ·refine ⟨_,cap,rfl,h0,fun k hk=>?_⟩
  obtain ⟨vf,vo,vm,ve,vr,vg,nm,fs,os,ms,es,rs,gs,cm,ce,gD,hP⟩:=he.at k _ (List.getElem?_eq_getElem hk)
  have e:=hP.is
  rw[e] at hP
  exact ⟨g,cur,vf,vo,vm,ve,vr,vg,nm,fs,os,ms,es,rs,gs,cm,ce,rfl,h2,h3,jw (j:=0) h7 gD rfl,jw (j:=1) h7 gD rfl,jw (j:=2) h7 gD rfl,jw (j:=3) h7 gD rfl,jw (j:=4) h7 gD rfl,jw (j:=5) h7 gD rfl,jw (j:=6) h7 gD rfl,by rw[←e];exact List.getElem_mem hk,hP⟩
def Yk (f:Nat):Prop:=∀(B:Nat→Prop) (w:World) (v:Value) (l:List Ms) (cs:List Value),fW B w 57 7 v l.length cs→pr B w cs l→(∀m ∈ l,zZ f m)→Calls Tryz.prog 39 #[v] w fun e w'=>e=.returned (.tuple #[])∧Sp B w w'
theorem EX:Yk 0:=by
 intro B w v l cs hv eI hd
 have e:l=[]:=by cases l with|nil=>rfl|cons m r=>exact (hd m (List.mem_cons_self ..)).elim
 subst e
 obtain ⟨a,c,rfl,-,-⟩:=hv.wr
 simp only[List.length_nil]
 clear hv eI hd
 go_enter Tryz.func39,Tryz.ntmps39
 go_wp2
 go_loopg [2,3,4,5,6,7] 1 (fun gk vq _ _ _ _ _ wr=>vq=.int .i64 0∧gk=1∧Hid (wr=w))
 case atStart=>exact ⟨rfl,rfl,rfl⟩
 case round =>
  obtain ⟨rfl,bd,HW⟩:=hrel
  go_wp2
  go_end0
  have:=ab HW
  subst this
  exact ⟨rfl,Sp.refl _ _⟩
theorem ym {f:Nat} (ih:Yk f):Yk (f+1):=by
 intro B w v l cs hv eI hd
 obtain ⟨a,c,rfl,hn,hk⟩:=Qp hv eI
 have HK:=ak hk
 have Hd:=ak hd
 have WT:=ak ih
 clear hv eI hk hd ih
 go_enter Tryz.func39,Tryz.ntmps39
 go_wp2
 go_loopg [2,3,4,5,6,7] l.length (fun gk vq _ _ _ _ _ wr=>∃(i:Nat),vq=.int .i64 (i:Int)∧gk=l.length-i∧i≤l.length∧Hid (Sp B w wr))
 case atStart=>exact ⟨0,rfl,rfl,by omega,Sp.refl _ _⟩
 case round =>
  obtain ⟨i,rfl,bd,hio,HS⟩:=hrel
  have aaX:=ak bd
  clear bd
  obtain ⟨wo,lM⟩:∃x,x=wr:=⟨_,rfl⟩
  subst lM
  by_cases aU:i<l.length
  ·obtain ⟨g,cur,vf,vo,vm,ve,vr,vg,nm,fs,os,ms,es,rs,gs,cm,ce,rfl,hg,hh,e0,e1,e2,e3,e4,e5,e6,bQ,hP⟩:=ab HK i aU
   obtain ⟨x3,y3,z3⟩:=hP.hm.sp (ab HS)
   obtain ⟨l3,p3,q3⟩:=hP.eI.sp (ab HS) 0 x3 rfl z3
   rw[←q3.len] at y3
   have HC:=ak (ab WT B wo vm l3 x3 y3 p3 (q3.dp f (ab Hd _ bQ)))
   clear y3 z3 p3 q3 bQ
   obtain ⟨af,cf,rfl,nf,kf⟩:=hP.hf.wr
   obtain ⟨ao,co,rfl,no,ko⟩:=hP.ho.wr
   obtain ⟨am,cq,rfl,Ls,km⟩:=hP.hm.wr
   obtain ⟨ae,cn,rfl,ne,ke⟩:=Ks hP.he hP.ep
   obtain ⟨ar,cr,rfl,nr,kr⟩:=hP.hr.wr
   obtain ⟨ag,cg,rfl,ng,kg⟩:=hP.hg.wr
   have HX:Hid (∀w',Sp B w w'→w'.cell? ⟨g,i*7+1,none⟩=some (.slice af fs.length cf)∧w'.cell? ⟨g,i*7+2,none⟩=some (.slice ao os.length co)∧w'.cell? ⟨g,i*7+3,none⟩=some (.slice am ms.length cq)∧w'.cell? ⟨g,i*7+4,none⟩=some (.slice ae es.length cn)∧w'.cell? ⟨g,i*7+5,none⟩=some (.slice ar rs.length cr)∧w'.cell? ⟨g,i*7+6,none⟩=some (.slice ag gs.length cg)):=fun w' h=>⟨h.cell hh e1 (fun y hy=>by have:=(fL hy).1;omega),h.cell hh e2 (fun y hy=>by have:=(fL hy).1;omega),h.cell hh e3 (fun y hy=>by have:=(fL hy).1;omega),h.cell hh e4 (fun y hy=>by have:=(fL hy).1;omega),h.cell hh e5 (fun y hy=>by have:=(fL hy).1;omega),h.cell hh e6 (fun y hy=>by have:=(fL hy).1;omega)⟩
   have HQ0:Hid (∀w',Sp B w w'→∃s',w'.cell? ⟨g,i*7,none⟩=some (.string s')∧w'.frozen? ⟨g,i*7,none⟩=false):=fun w' h=>h.text hh e0 (fun y hy=>(fL hy).2)
   have wB:Hid (∀w',Sp B w w'→Sp B w (w'.setCell ⟨g,i*7,none⟩ (.string ⟨#[115,112,111,105,108,116]⟩))):=fun w' h=>by
    obtain ⟨c',h5,-,-⟩:=h.cH g cur _ hh
    exact (Sp.put h ⟨_,h5⟩ hg (Uy (by omega))).1
   have Kf:=ak kf
   have Ko:=ak ko
   have Ke:=ak ke
   have Kr:=ak kr
   have Kg:=ak kg
   obtain ⟨x1,x2,x3,x4,x5,x6⟩:=ab HX wo (ab HS)
   have j0:(0:Int)≤(i:Int):=zH _
   have j1:(i:Int)<(l.length:Int):=by omega
   have WS:=ak aU
   clear hP kf ko km ke kr kg hh hg e0 e1 e2 e3 e4 e5 e6 aU
   go_wp2_with fail
   refine (ab HC).mono ?_
   rintro e' w2 ⟨rfl,ff⟩
   have EB:=ak ((ab HS).trans ff)
   clear ff HC HS x1 x2 x3 x4 x5 x6
   obtain ⟨x1,x2,x3,x4,x5,x6⟩:=ab HX w2 (ab EB)
   go_wp2
   go_loopg [3] es.length (fun gk vq wr=>∃(k:Nat),vq=.int .i64 (k:Int)∧gk=es.length-k∧k≤es.length∧Hid (Sp B w wr))
   case atStart=>exact ⟨0,rfl,rfl,by omega,ab EB⟩
   case round =>
    obtain ⟨k,rfl,bd,fY,qu⟩:=hrel
    have bH:=ak bd
    clear bd EB
    clear x1 x2 x3 x4 x5 x6
    obtain ⟨x1,x2,x3,x4,x5,x6⟩:=ab HX wr (ab qu)
    by_cases aU:k<es.length
    ·obtain ⟨g2,Dd,UI,vv,YW,YY,n1,n2,n3,rfl,cE,BR,e0,e1,e2,e3,r1,r2,r3⟩:=ab Ke k aU
     have HC:=ak (fun s':ByteArray=>mU (nm:=s') r1 r2 r3 (ab qu))
     obtain ⟨b1,d1,rfl,-,-⟩:=r1
     obtain ⟨b2,d2,rfl,-,-⟩:=r2
     obtain ⟨b3,d3,rfl,-,-⟩:=r3
     have HQ:Hid (∀w',Sp B w w'→∃s',w'.cell? ⟨g2,k*4,none⟩=some (.string s')∧w'.frozen? ⟨g2,k*4,none⟩=false):=fun w' h=>h.text BR e0 (fun y hy=>(fh hy).2)
     have q1:=(ab qu).cell BR e1 (fun y hy=>by have:=(fh hy).1;omega)
     have q2:=(ab qu).cell BR e2 (fun y hy=>by have:=(fh hy).1;omega)
     have q3:=(ab qu).cell BR e3 (fun y hy=>by have:=(fh hy).1;omega)
     obtain ⟨s',q0,z0⟩:=ab HQ wr (ab qu)
     have HT:Hid (∀w',Sp B w w'→Sp B w (w'.setCell ⟨g2,k*4,none⟩ (.string ⟨#[115,112,111,105,108,116]⟩))):=fun w' h=>by
      obtain ⟨c',h5,-,-⟩:=h.cH g2 Dd _ BR
      exact (Sp.put h ⟨_,h5⟩ cE (OG (by omega))).1
     have i0:(0:Int)≤(k:Int):=zH _
     have i1:(k:Int)<(es.length:Int):=by omega
     have bn:=ak aU
     clear BR cE e0 e1 e2 e3 aU z0
     go_wp2_with fail
     refine (ab HC s').mono ?_
     rintro e' w2 ⟨rfl,ff⟩
     have pE:=ak ((ab qu).trans ff)
     clear ff HC q0 q1 q2 q3 qu
     clear x1 x2 x3 x4 x5 x6
     obtain ⟨x1,x2,x3,x4,x5,x6⟩:=ab HX w2 (ab pE)
     obtain ⟨s2,q0,z0⟩:=ab HQ w2 (ab pE)
     have vV:=ak (ab HT w2 (ab pE))
     go_wp2
     go_roundg (es.length-(k+1))
     case measure=>have:=ab bH;have:=ab bn;omega
     case rel=>exact ⟨k+1,by go_num,rfl,ab bn,ab vV⟩
    ·obtain rfl:k=es.length:=by omega
     obtain ⟨wob,lM⟩:∃x,x=wr:=⟨_,rfl⟩
     subst lM
     clear aU fY bH
     go_wp2
     go_loopg [4] fs.length (fun gk vq wr=>∃(k:Nat),vq=.int .i64 (k:Int)∧gk=fs.length-k∧k≤fs.length∧Hid (Sp B w wr))
     case atStart=>exact ⟨0,rfl,rfl,by omega,ab qu⟩
     case round =>
      obtain ⟨k,rfl,bd,fY,LO⟩:=hrel
      have bH:=ak bd
      clear bd qu
      clear x1 x2 x3 x4 x5 x6
      obtain ⟨x1,x2,x3,x4,x5,x6⟩:=ab HX wr (ab LO)
      by_cases aU:k<fs.length
      ·obtain ⟨g,cur,rfl,hg,hh,hn⟩:=ab Kf (by omega)
       obtain ⟨fI,jP,iL,-⟩:=(ab LO).cH g cur _ hh
       obtain ⟨y0,d0,z0⟩:=dw (j:=k*6) jP (by omega)
       obtain ⟨y1,d1,z1⟩:=dw (j:=k*6+1) jP (by omega)
       obtain ⟨y2,d2,z2⟩:=dw (j:=k*6+2) jP (by omega)
       obtain ⟨y3,d3,z3⟩:=dw (j:=k*6+3) jP (by omega)
       obtain ⟨y4,d4,z4⟩:=dw (j:=k*6+4) jP (by omega)
       obtain ⟨y5,d5,z5⟩:=dw (j:=k*6+5) jP (by omega)
       obtain ⟨s0,t0⟩:=Sp.put (ab LO) (⟨_,jP⟩:nv wr g 53) hg (j:=k*6) (y:=.int .i64 1) (Cj _ (by omega))
       obtain ⟨s1,t1⟩:=Sp.put s0 t0 hg (j:=k*6+1) (y:=.string ⟨#[]⟩) (Ch (by decide) (by omega))
       obtain ⟨s2,t2⟩:=Sp.put s1 t1 hg (j:=k*6+2) (y:=.string ⟨#[120]⟩) (Ch (by decide) (by omega))
       obtain ⟨s3,t3⟩:=Sp.put s2 t2 hg (j:=k*6+3) (y:=.string ⟨#[115,112,111,105,108,116]⟩) (Ch (by decide) (by omega))
       obtain ⟨s4,t4⟩:=Sp.put s3 t3 hg (j:=k*6+4) (y:=.int .i64 0) (Cj _ (by omega))
       obtain ⟨s5,t5⟩:=Sp.put s4 t4 hg (j:=k*6+5) (y:=.int .i64 0) (Cj _ (by omega))
       have vV:=ak s5
       have i0:(0:Int)≤(k:Int):=zH _
       have i1:(k:Int)<(fs.length:Int):=by omega
       have bn:=ak aU
       clear hh hg hn jP iL aU s0 t0 s1 t1 s2 t2 s3 t3 s4 t4 s5 t5
       go_wp2
       go_roundg (fs.length-(k+1))
       case measure=>have:=ab bH;have:=ab bn;omega
       case rel=>exact ⟨k+1,by go_num,rfl,ab bn,ab vV⟩
      ·obtain rfl:k=fs.length:=by omega
       obtain ⟨woc,lM⟩:∃x,x=wr:=⟨_,rfl⟩
       subst lM
       clear aU fY bH
       go_wp2
       go_loopg [5] os.length (fun gk vq wr=>∃(k:Nat),vq=.int .i64 (k:Int)∧gk=os.length-k∧k≤os.length∧Hid (Sp B w wr))
       case atStart=>exact ⟨0,rfl,rfl,by omega,ab LO⟩
       case round =>
        obtain ⟨k,rfl,bd,fY,W9⟩:=hrel
        have bH:=ak bd
        clear bd LO
        clear x1 x2 x3 x4 x5 x6
        obtain ⟨x1,x2,x3,x4,x5,x6⟩:=ab HX wr (ab W9)
        by_cases aU:k<os.length
        ·obtain ⟨g,cur,rfl,hg,hh,hn⟩:=ab Ko (by omega)
         obtain ⟨fI,jP,iL,-⟩:=(ab W9).cH g cur _ hh
         obtain ⟨y0,d0,z0⟩:=dw (j:=k) jP (by omega)
         obtain ⟨s0,t0⟩:=Sp.put (ab W9) (⟨_,jP⟩:nv wr g 9) hg (j:=k) (y:=.string ⟨#[115,112,111,105,108,116]⟩) (DK _)
         have vV:=ak s0
         have i0:(0:Int)≤(k:Int):=zH _
         have i1:(k:Int)<(os.length:Int):=by omega
         have bn:=ak aU
         clear hh hg hn jP iL aU s0 t0
         go_wp2
         go_roundg (os.length-(k+1))
         case measure=>have:=ab bH;have:=ab bn;omega
         case rel=>exact ⟨k+1,by go_num,rfl,ab bn,ab vV⟩
        ·obtain rfl:k=os.length:=by omega
         obtain ⟨wod,lM⟩:∃x,x=wr:=⟨_,rfl⟩
         subst lM
         clear aU fY bH
         go_wp2
         go_loopg [6] rs.length (fun gk vq wr=>∃(k:Nat),vq=.int .i64 (k:Int)∧gk=rs.length-k∧k≤rs.length∧Hid (Sp B w wr))
         case atStart=>exact ⟨0,rfl,rfl,by omega,ab W9⟩
         case round =>
          obtain ⟨k,rfl,bd,fY,W8⟩:=hrel
          have bH:=ak bd
          clear bd W9
          clear x1 x2 x3 x4 x5 x6
          obtain ⟨x1,x2,x3,x4,x5,x6⟩:=ab HX wr (ab W8)
          by_cases aU:k<rs.length
          ·obtain ⟨g,cur,rfl,hg,hh,hn⟩:=ab Kr (by omega)
           obtain ⟨fI,jP,iL,-⟩:=(ab W8).cH g cur _ hh
           obtain ⟨y0,d0,z0⟩:=dw (j:=k*2) jP (by omega)
           obtain ⟨y1,d1,z1⟩:=dw (j:=k*2+1) jP (by omega)
           obtain ⟨s0,t0⟩:=Sp.put (ab W8) (⟨_,jP⟩:nv wr g 83) hg (j:=k*2) (y:=.int .i64 3) (DL _ _)
           obtain ⟨s1,t1⟩:=Sp.put s0 t0 hg (j:=k*2+1) (y:=.int .i64 4) (DL _ _)
           have vV:=ak s1
           have i0:(0:Int)≤(k:Int):=zH _
           have i1:(k:Int)<(rs.length:Int):=by omega
           have bn:=ak aU
           clear hh hg hn jP iL aU s0 t0 s1 t1
           go_wp2
           go_roundg (rs.length-(k+1))
           case measure=>have:=ab bH;have:=ab bn;omega
           case rel=>exact ⟨k+1,by go_num,rfl,ab bn,ab vV⟩
          ·obtain rfl:k=rs.length:=by omega
           obtain ⟨woe,lM⟩:∃x,x=wr:=⟨_,rfl⟩
           subst lM
           clear aU fY bH
           go_wp2
           go_loopg [7] gs.length (fun gk vq wr=>∃(k:Nat),vq=.int .i64 (k:Int)∧gk=gs.length-k∧k≤gs.length∧Hid (Sp B w wr))
           case atStart=>exact ⟨0,rfl,rfl,by omega,ab W8⟩
           case round =>
            obtain ⟨k,rfl,bd,fY,W7⟩:=hrel
            have bH:=ak bd
            clear bd W8
            clear x1 x2 x3 x4 x5 x6
            obtain ⟨x1,x2,x3,x4,x5,x6⟩:=ab HX wr (ab W7)
            by_cases aU:k<gs.length
            ·obtain ⟨g,cur,rfl,hg,hh,hn⟩:=ab Kg (by omega)
             obtain ⟨fI,jP,iL,-⟩:=(ab W7).cH g cur _ hh
             obtain ⟨y0,d0,z0⟩:=dw (j:=k) jP (by omega)
             obtain ⟨s0,t0⟩:=Sp.put (ab W7) (⟨_,jP⟩:nv wr g 9) hg (j:=k) (y:=.string ⟨#[115,112,111,105,108,116]⟩) (DK _)
             have vV:=ak s0
             have i0:(0:Int)≤(k:Int):=zH _
             have i1:(k:Int)<(gs.length:Int):=by omega
             have bn:=ak aU
             clear hh hg hn jP iL aU s0 t0
             go_wp2
             go_roundg (gs.length-(k+1))
             case measure=>have:=ab bH;have:=ab bn;omega
             case rel=>exact ⟨k+1,by go_num,rfl,ab bn,ab vV⟩
            ·obtain rfl:k=gs.length:=by omega
             obtain ⟨wof,lM⟩:∃x,x=wr:=⟨_,rfl⟩
             subst lM
             clear aU fY bH
             obtain ⟨s2,q0,z0⟩:=ab HQ0 _ (ab W7)
             have vV:=ak (ab wB _ (ab W7))
             go_wp2
             go_roundg (l.length-(i+1))
             case measure=>have:=ab aaX;have:=ab WS;omega
             case rel=>exact ⟨i+1,by go_num,rfl,ab WS,ab vV⟩
  ·obtain rfl:i=l.length:=by omega
   go_wp2
   go_end0
   exact ⟨rfl,ab HS⟩
theorem qA:∀f,Yk f
 |0=>EX
 |f+1=>ym (qA f)
end Go.Proofs.YtghioefalckgoaaGreatDoor

import Derived.Test.YtmlphohdcejniaaGreatDoorM32
import Derived.Lib.ItoaNum
import Derived.Lib.ItoaLen
set_option maxHeartbeats 2000000
set_option maxRecDepth 100000
namespace Go.Proofs.YtmlphohdcejniaaGreatDoor
open Go.RowKit
attribute [local go_sem ↓] Go.wp_at_zero Go.wp_at_succ
theorem Me (s:ByteArray) (a b:Nat):(s.extract a b).size≤s.size:=by
 rw[ByteArray.size_extract]
 omega
theorem GJ (s:ByteArray):∀(f k n:Nat) (ts:List Tok),kV s f k n=.inl ts→∀t ∈ ts,t.text.size≤s.size:=by
 intro f
 induction f with
 |zero=>intro k n ts h;cases h
 |succ f ih =>
  intro k n ts h
  rw[kV] at h
  split at h
  ·cases h
  ·split at h
   ·have:=Sum.inl.inj h
    rw[←this]
    intro t ht
    rw[List.mem_singleton] at ht
    subst ht
    exact Nat.zero_le _
   ·split at h
    ·cases h
    ·split at h
     ·cases hr:kV s f (dX s (bz s s.size k).1).2.1 (n+1) with
      |inl l =>
       rw[hr] at h
       have:=Sum.inl.inj h
       have h2:=ih _ _ l hr
       rw[←this]
       intro t ht
       rcases List.mem_cons.1 ht with rfl|ht
       ·exact Me _ _ _
       ·exact h2 t ht
      |inr e=>rw[hr] at h;cases h
     ·cases h
theorem GH {s:ByteArray}{ts:List Tok} (h:lG s=.inl ts):∀t ∈ ts,t.text.size≤65536:=by
 unfold lG at h
 split at h
 ·cases h
 ·split at h
  ·cases h
  ·rename_i h1 _
   intro t ht
   have:=GJ s _ _ _ ts h t ht
   omega
theorem qq {W:World} (hF:mA W) (hE:fZ W) (hM:gD W) (s:ByteArray):Calls Tryz.prog 8 #[.string s] W (QV W (gV s)):=by
 obtain ⟨bH,bR,nT,fF⟩:=al2 W 0 0
 have HC:=aj (DE (hF.up bH) (hE.up bH) (hM.up bH hM.1) s)
 have HB:=aj bH
 have Dp:=aj bR
 have HX:=aj (show (Nq W 0 0).heap[W.heap.size]?=_∧(Nq W 0 0).heap[W.heap.size+1]?=_ from ⟨nT,fF⟩)
 have E8:=aj (show mA W∧fZ W∧gD W from ⟨hF,hE,hM⟩)
 unfold Nq at HC HB Dp HX
 clear bH bR nT fF hF hE hM
 go_enter Tryz.func8,Tryz.ntmps8
 go_wp2_with fail
 refine (aa HC).mono ?_
 rintro e w1 ⟨bC,V'⟩
 rw[aa Dp] at bC V'
 have FZ:Below W.heap.size W w1:=(aa HB).trans (bC.mono (by omega))
 have Af:W.heap.size+2≤w1.heap.size:=by have:=bC.size;have:=aa Dp;omega
 have k2:=(bC.block W.heap.size (by omega)).trans (aa HX).1
 have k3:=(bC.block (W.heap.size+1) (by omega)).trans (aa HX).2
 cases ht:lG s with
 |inr p =>
  obtain ⟨k,c⟩:=p
  rw[ht] at V'
  obtain ⟨hc,rfl⟩:=V'
  have HF:Hid (gV s=.error ((c:Int),(k:Int))):=by show _=_;unfold gV;rw[ht]
  obtain ⟨q1,q2⟩:=uR FZ k2 k3 (.string ⟨#[]⟩) (.slice none 0 0) (.slice none 0 0) (.slice none 0 0) (.int .i64 (c:Int)) (.int .i64 0) (.int .i64 (k:Int)) (.string ⟨#[]⟩)
  have Q1:=aj q1
  have Q2:=aj q2
  unfold fP at Q1 Q2
  obtain ⟨⟨y0,y1,y2,y3⟩,yf⟩:=gz k2
  obtain ⟨⟨z0,z1,z2,z3⟩,zf⟩:=gz k3
  have f0:=yf 0
  have f1:=yf 1
  have f2:=yf 2
  have f3:=yf 3
  have g0:=zf 0
  have g1:=zf 1
  have g2:=zf 2
  have g3:=zf 3
  have hcz:((c:Int) != 0)=true:=by simp;omega
  clear bC FZ Af k2 k3 ht q1 q2 yf zf hc HC
  go_wp2
  refine tM rfl rfl rfl (aa Q1).1 (aa Q1).2.1 rfl rfl ?_
  rw[aa HF]
  exact ⟨rfl,aa Q2⟩
 |inl ts =>
  rw[ht] at V'
  obtain ⟨v,rfl,cC⟩:=V'
  have HF:Hid (gV s=nM (ts.map Tok.tk)):=by show _=_;unfold gV;rw[ht]
  have QH:=aa E8
  have htx:∀t ∈ ts.map Tok.tk,t.text.size≤140737488355327:=fun t h=>by
   obtain ⟨t0,h0,rfl⟩:=List.mem_map.1 h
   have:=GH ht t0 h0
   show t0.text.size≤_
   omega
  have HT:=aj (BH (QH.1.up FZ) (QH.2.1.up FZ) (QH.2.2.up FZ QH.2.2.1) (Od cC (zD _) (zD _)) htx (by have:=JW ht;simp;omega))
  have iu:=aj (fun e w=>yq (W:=W) (r:=nM (ts.map Tok.tk)) (e:=e) (w:=w) FZ Af k2 k3)
  obtain ⟨va,vn,vc,hv⟩:=aL cC
  subst hv
  clear bC FZ Af k2 k3 ht cC QH htx HC
  go_wp2_with fail
  refine (aa HT).mono ?_
  intro e w2 Qz
  obtain ⟨c0,ia,il,ic,ma,ml,mc,ea,el,ec,er,sp,rfl,k2,k3,q2,q3,gK⟩:=aa iu _ _ Qz
  obtain ⟨⟨y0,y1,y2,y3⟩,yf⟩:=gz k2
  obtain ⟨⟨z0,z1,z2,z3⟩,zf⟩:=gz k3
  have f0:=yf 0
  have f1:=yf 1
  have f2:=yf 2
  have f3:=yf 3
  have g0:=zf 0
  have g1:=zf 1
  have g2:=zf 2
  have g3:=zf 3
  have Q2:=aj q2
  have Q3:=aj q3
  have HE:=aj gK
  unfold fP at Q2 Q3 HE
  clear Qz yf zf k2 k3 q2 q3 gK HT iu
  go_wp2
  refine tM rfl rfl rfl (aa Q2) (aa Q3) rfl rfl ?_
  rw[aa HF]
  exact aa HE
def km (w:World) (v:Value) (n:Nat) (xs:List Value):Prop:=∃a c,v=.slice a n c∧n≤maxLen∧(0<n→∃g,a=some ⟨g,0,none⟩∧g<w.heap.size∧∀j x,xs[j]?=some x→w.cell? ⟨g,j,none⟩=some x)
theorem eQ.rd {P:Nat→Prop}{w:World}{t sz n:Nat}{v:Value}{xs:List Value} (h:eQ P w t sz v n xs):km w v n xs:=by
 obtain ⟨⟨h1,⟨rfl,rfl⟩|⟨g,c,cur,rfl,h2,h3,h4,h5,h6,h7⟩⟩,_⟩:=h
 ·exact ⟨none,0,rfl,Nat.zero_le _,fun h=>absurd h (by omega)⟩
 ·refine ⟨_,c,rfl,Nat.le_trans h4 h5,fun _=>⟨g,rfl,(zA h3).1,fun j u hj=>?_⟩⟩
  rw[cell_of_row _ _ _ _ _ _ h3,←Array.getElem?_toList]
  rw[←h7,List.getElem?_take] at hj
  split at hj
  ·exact hj
  ·cases hj
theorem km.up {w w':World}{v:Value}{n:Nat}{xs:List Value} (h:km w v n xs) (hb:Below w.heap.size w w'):km w' v n xs:=by
 obtain ⟨a,c,rfl,h1,h2⟩:=h
 refine ⟨a,c,rfl,h1,fun hp=>?_⟩
 obtain ⟨g,rfl,h3,h4⟩:=h2 hp
 exact ⟨g,rfl,Nat.lt_of_lt_of_le h3 hb.size,fun j x hx=>(hb.cell (p:=⟨g,j,none⟩) h3).trans (h4 j x hx)⟩
def rH (W:World) (e:Ending) (w:World):Prop:=e=.returned (.bool true)∧Below W.heap.size W w
theorem jw (l:List ByteArray) (i:Nat) (t:ByteArray) (h:l[i]?=some t):(bS l)[i]?=some (.string t):=by
 unfold bS
 rw[List.getElem?_map,h]
 rfl
theorem EB:∀(l:List (ByteArray×Int)) (i:Nat) (p:ByteArray×Int),l[i]?=some p→(wH l)[i*2]?=some (.string p.1)∧(wH l)[i*2+1]?=some (.int .i64 p.2)
 |[],i,t,h=>by simp at h
 |x::r,0,t,h=>by
  obtain rfl:x=t:=by simpa using h
  exact ⟨rfl,rfl⟩
 |x::r,i+1,t,h=>by
  have:=EB r i t (by simpa using h)
  rw[show (i+1)*2=i*2+2 by omega]
  exact this
theorem vh:∀(l:List (Int×Int)) (i:Nat) (p:Int×Int),l[i]?=some p→(kz l)[i*2]?=some (.int .i64 p.1)∧(kz l)[i*2+1]?=some (.int .i64 p.2)
 |[],i,t,h=>by simp at h
 |x::r,0,t,h=>by
  obtain rfl:x=t:=by simpa using h
  exact ⟨rfl,rfl⟩
 |x::r,i+1,t,h=>by
  have:=vh r i t (by simpa using h)
  rw[show (i+1)*2=i*2+2 by omega]
  exact this
theorem pG:∀(l:List Fd) (i:Nat) (d:Fd),l[i]?=some d→∀j v,d.arr[j]?=some v→(gX l)[i*6+j]?=some v
 |[],i,t,h=>by simp at h
 |x::r,0,t,h=>by
  obtain rfl:x=t:=by simpa using h
  intro j v hv
  have hj:j<6:=by
   have:=(zA hv).1
   simpa[Fd.arr] using this
  show (x.arr.toList++_)[0*6+j]?=_
  rw[List.getElem?_append_left (by simp[Fd.arr];omega),Nat.zero_mul,Nat.zero_add,Array.getElem?_toList]
  exact hv
 |x::r,i+1,t,h=>by
  intro j v hv
  have:=pG r i t (by simpa using h) j v hv
  rw[show (i+1)*6+j=6+(i*6+j) by omega]
  show (x.arr.toList++gX r)[6+(i*6+j)]?=_
  rw[List.getElem?_append_right (by simp[Fd.arr])]
  simpa[Fd.arr] using this
theorem iy {W:World}{v u:Value}{l:List ByteArray} (h:km W v l.length (bS l)) (h':km W u l.length (bS l)):Calls Tryz.prog 25 #[v,u] W (rH W):=by
 obtain ⟨a,c,rfl,hc,h3⟩:=h
 obtain ⟨a',c',rfl,LH,A3⟩:=h'
 have H3:=aj h3
 have H3':=aj A3
 clear h3 A3
 unfold maxLen at hc LH
 have hll:((l.length:Int) != (l.length:Int))=false:=by simp
 go_enter Tryz.func25,Tryz.ntmps25
 go_wp2
 go_loopg [5] l.length (fun gk v5 wr=>∃(i m:Nat),v5=.int .i64 (i:Int)∧gk=l.length-i∧i≤l.length∧wr=W.drewN m)
 case atStart=>exact ⟨0,0,rfl,rfl,by omega,rfl⟩
 case round =>
  obtain ⟨i,m,rfl,eN,hi,rfl⟩:=hrel
  have fQ:=aj eN
  clear eN
  by_cases cc:i<l.length
  ·obtain ⟨t,ht⟩:∃t,l[i]?=some t:=⟨_,List.getElem?_eq_getElem cc⟩
   obtain ⟨g,rfl,hg,hx⟩:=aa H3 (by omega)
   obtain ⟨g',rfl,p9,yA⟩:=aa H3' (by omega)
   have x1:=hx _ _ (jw l i t ht)
   have y1:=yA _ _ (jw l i t ht)
   have i0:(0:Int)≤(i:Int):=zH _
   have i1:(i:Int)<(l.length:Int):=by omega
   clear hx yA ht
   go_wp2
   go_quiet (fail)
   go_wp2
   go_roundg (l.length-(i+1))
   case measure=>have:=aa fQ;omega
   case rel=>exact ⟨i+1,_,by go_num,rfl,by omega,rfl⟩
  ·obtain rfl:i=l.length:=by omega
   go_wp2
   go_ret
   exact ⟨rfl,below_drewN (zE _ _) _⟩
theorem pc {W:World}{v u:Value}{l:List (Int×Int)} (h:km W v l.length (kz l)) (h':km W u l.length (kz l)):Calls Tryz.prog 31 #[v,u] W (rH W):=by
 obtain ⟨a,c,rfl,hc,h3⟩:=h
 obtain ⟨a',c',rfl,LH,A3⟩:=h'
 have H3:=aj h3
 have H3':=aj A3
 clear h3 A3
 unfold maxLen at hc LH
 have hll:((l.length:Int) != (l.length:Int))=false:=by simp
 go_enter Tryz.func31,Tryz.ntmps31
 go_wp2
 go_loopg [5] l.length (fun gk v5 wr=>∃(i m:Nat),v5=.int .i64 (i:Int)∧gk=l.length-i∧i≤l.length∧wr=W.drewN m)
 case atStart=>exact ⟨0,0,rfl,rfl,by omega,rfl⟩
 case round =>
  obtain ⟨i,m,rfl,eN,hi,rfl⟩:=hrel
  have fQ:=aj eN
  clear eN
  by_cases cc:i<l.length
  ·obtain ⟨t,ht⟩:∃t,l[i]?=some t:=⟨_,List.getElem?_eq_getElem cc⟩
   obtain ⟨g,rfl,hg,hx⟩:=aa H3 (by omega)
   obtain ⟨g',rfl,p9,yA⟩:=aa H3' (by omega)
   obtain ⟨r1,r2⟩:=vh l i t ht
   have x1:=hx _ _ r1
   have y1:=yA _ _ r1
   have x2:=hx _ _ r2
   have y2:=yA _ _ r2
   have i0:(0:Int)≤(i:Int):=zH _
   have i1:(i:Int)<(l.length:Int):=by omega
   obtain ⟨t1,t2⟩:=t
   simp only at x1 x2 y1 y2
   clear hx yA ht r1 r2
   go_wp2
   go_quiet (fail)
   go_wp2
   go_roundg (l.length-(i+1))
   case measure=>have:=aa fQ;omega
   case rel=>exact ⟨i+1,_,by go_num,rfl,by omega,rfl⟩
  ·obtain rfl:i=l.length:=by omega
   go_wp2
   go_ret
   exact ⟨rfl,below_drewN (zE _ _) _⟩
end Go.Proofs.YtmlphohdcejniaaGreatDoor
namespace Go.Proofs.YtmlphohdcejniaaGreatDoor
open Go.RowKit
def Rl (w:World) (v:Value) (n:Nat) (xs:List Value):Prop:=∃a c,v=.slice a n c∧n≤140737488355328∧(0<n→∃g o,a=some ⟨g,o,none⟩∧g<w.heap.size∧∀j x,xs[j]?=some x→w.cell? ⟨g,o+j,none⟩=some x)
theorem Rl.up {w w':World}{v:Value}{n:Nat}{xs:List Value} (h:Rl w v n xs) (hb:Below w.heap.size w w'):Rl w' v n xs:=by
 obtain ⟨a,c,rfl,h1,h2⟩:=h
 refine ⟨a,c,rfl,h1,fun hp=>?_⟩
 obtain ⟨g,o,rfl,h3,h4⟩:=h2 hp
 exact ⟨g,o,rfl,Nat.lt_of_lt_of_le h3 hb.size,fun j x hx=>(hb.cell (p:=⟨g,o+j,none⟩) h3).trans (h4 j x hx)⟩
inductive Dw (w:World):List Value→List En→Prop
 |nil:Dw w [] []
 |cons {e:En} {vv vr vg:Value} {rest:List Value} {l:List En} (hv:Rl w vv e.bJ.length (wH e.bJ)) (hr:Rl w vr e.res.length (kz e.res)) (hg:Rl w vg e.gone.length (bS e.gone)) (ht:Dw w rest l):Dw w (.string e.name::vv::vr::vg::rest) (e::l)
theorem Dw.up {w w':World}{cs:List Value}{l:List En} (h:Dw w cs l) (hb:Below w.heap.size w w'):Dw w' cs l:=by
 induction h with
 |nil=>exact .nil
 |cons hv hr hg _ ih=>exact .cons (hv.up hb) (hr.up hb) (hg.up hb) ih
theorem Dw.len {w:World}{cs:List Value}{l:List En} (h:Dw w cs l):cs.length=l.length*4:=by
 induction h with
 |nil=>rfl
 |cons hv hr hg _ ih=>simp only[List.length_cons,ih];omega
theorem Dw.at {w:World}{cs:List Value}{l:List En} (h:Dw w cs l):∀(i:Nat) (e:En),l[i]?=some e→∃vv vr vg,(cs.drop (i*4)).take 4=[.string e.name,vv,vr,vg]∧Rl w vv e.bJ.length (wH e.bJ)∧Rl w vr e.res.length (kz e.res)∧Rl w vg e.gone.length (bS e.gone):=by
 induction h with
 |nil=>intro i e h;simp at h
 |cons hv hr hg _ ih =>
  intro i e h
  cases i with
  |zero =>
   obtain rfl:=zC (h.symm.trans rfl)
   exact ⟨_,_,_,rfl,hv,hr,hg⟩
  |succ i =>
   obtain ⟨vv,vr,vg,h1,h2⟩:=ih i e (by simpa using h)
   refine ⟨vv,vr,vg,?_,h2⟩
   rw[show (i+1)*4=i*4+4 by omega]
   exact h1
inductive Dm (w:World):List Value→List Ms→Prop
 |nil:Dm w [] []
 |cons {nm:ByteArray} {fs:List Fd} {os:List ByteArray} {ms:List Ms} {es:List En} {rs:List (Int×Int)} {gs:List ByteArray} {vf vo vm ve vr vg:Value} {cm ce rest:List Value} {l:List Ms}
   (hf:Rl w vf fs.length (gX fs)) (ho:Rl w vo os.length (bS os)) (hm:Rl w vm ms.length cm) (jQ:Dm w cm ms) (he:Rl w ve es.length ce) (mx:Dw w ce es)
   (hr:Rl w vr rs.length (kz rs)) (hg:Rl w vg gs.length (bS gs)) (ht:Dm w rest l):Dm w (.string nm::vf::vo::vm::ve::vr::vg::rest) (.mk nm fs os ms es rs gs::l)
theorem Dm.up {w w':World}{cs:List Value}{l:List Ms} (h:Dm w cs l) (hb:Below w.heap.size w w'):Dm w' cs l:=by
 induction h with
 |nil=>exact .nil
 |cons hf ho hm _ he mx hr hg _ V0 Is=>exact .cons (hf.up hb) (ho.up hb) (hm.up hb) V0 (he.up hb) (mx.up hb) (hr.up hb) (hg.up hb) Is
theorem Dm.len {w:World}{cs:List Value}{l:List Ms} (h:Dm w cs l):cs.length=l.length*7:=by
 induction h with
 |nil=>rfl
 |cons hf ho hm _ he mx hr hg _ _ Is=>simp only[List.length_cons,Is];omega
structure XO (w:World) (m:Ms) (vf vo vm ve vr vg:Value) (nm:ByteArray) (fs:List Fd) (os:List ByteArray) (ms:List Ms) (es:List En) (rs:List (Int×Int)) (gs:List ByteArray) (cm ce:List Value):Prop where
 is:m=.mk nm fs os ms es rs gs
 hf:Rl w vf fs.length (gX fs)
 ho:Rl w vo os.length (bS os)
 hm:Rl w vm ms.length cm
 jQ:Dm w cm ms
 he:Rl w ve es.length ce
 mx:Dw w ce es
 hr:Rl w vr rs.length (kz rs)
 hg:Rl w vg gs.length (bS gs)
theorem Dm.at {w:World}{cs:List Value}{l:List Ms} (h:Dm w cs l):∀(i:Nat) (m:Ms),l[i]?=some m→∃vf vo vm ve vr vg nm fs os ms es rs gs cm ce,(cs.drop (i*7)).take 7=[.string nm,vf,vo,vm,ve,vr,vg]∧XO w m vf vo vm ve vr vg nm fs os ms es rs gs cm ce:=by
 induction h with
 |nil=>intro i e h;simp at h
 |cons hf ho hm jQ he mx hr hg _ _ ih =>
  intro i m h
  cases i with
  |zero =>
   obtain rfl:=zC (h.symm.trans rfl)
   exact ⟨_,_,_,_,_,_,_,_,_,_,_,_,_,_,_,rfl,⟨rfl,hf,ho,hm,jQ,he,mx,hr,hg⟩⟩
  |succ i =>
   obtain ⟨vf,vo,vm,ve,vr,vg,nm,fs,os,ms,es,rs,gs,cm,ce,h1,h2⟩:=ih i m (by simpa using h)
   refine ⟨vf,vo,vm,ve,vr,vg,nm,fs,os,ms,es,rs,gs,cm,ce,?_,h2⟩
   rw[show (i+1)*7=i*7+7 by omega]
   exact h1
structure Rh (w:World) (v:Value) (F:Fl) (vi vm ve:Value) (cm ce:List Value):Prop where
 is:v=.agg #[.string F.fW,vi,vm,ve]
 hi:Rl w vi F.cy.length (bS F.cy)
 hm:Rl w vm F.ms.length cm
 jQ:Dm w cm F.ms
 he:Rl w ve F.es.length ce
 mx:Dw w ce F.es
theorem Rh.up {w w':World}{v vi vm ve:Value}{F:Fl}{cm ce:List Value} (h:Rh w v F vi vm ve cm ce) (hb:Below w.heap.size w w'):Rh w' v F vi vm ve cm ce:=⟨h.is,h.hi.up hb,h.hm.up hb,h.jQ.up hb,h.he.up hb,h.mx.up hb⟩
theorem eh {B B':Nat}{w:World}{e size n:Nat}{v:Value}{xs:List Value} (h:w.ownsRow B e size v n xs) (hb:B'≤B):w.ownsRow B' e size v n xs:=by
 obtain ⟨h1,h|⟨g,cap,cur,rfl,h2,h3⟩⟩:=h
 ·exact ⟨h1,.inl h⟩
 ·exact ⟨h1,.inr ⟨g,cap,cur,rfl,Nat.le_trans hb h2,h3⟩⟩
theorem bj {B:Nat}{w:World}{e size n:Nat}{v:Value}{xs:List Value} (h:w.ownsRow B e size v n xs):∃a c,v=.slice a n c:=by
 obtain ⟨h1,⟨rfl,rfl⟩|⟨g,cap,cur,rfl,h2,h3⟩⟩:=h
 ·exact ⟨_,_,rfl⟩
 ·exact ⟨_,_,rfl⟩
theorem bF {B:Nat}{w:World}{e size n b t:Nat}{v:Value}{xs:List Value}{cs:Array Value}{fr:Nat×Nat} (h:w.ownsRow B e size v n xs) (hb:w.heap[b]?=some (.cells cs t fr)) (ht:e≠t):v.ownBlock≠some b:=by
 intro hv
 obtain ⟨h1,⟨rfl,_⟩|⟨g,cap,cur,rfl,_,h4,_⟩⟩:=h
 ·cases hv
 ·obtain rfl:g=b:=by simpa[Value.ownBlock] using hv
  rw[h4] at hb
  simp at hb
  exact ht hb.2.1
theorem lL {B B':Nat}{w:World}{e e' size Vz n n':Nat}{v u:Value}{xs ys:List Value} (h:w.ownsRow B e size v n xs) (k:w.ownsRow B' e' Vz u n' ys) (ht:e≠e'):u.ownBlock=none∨u.ownBlock≠v.ownBlock:=by
 cases hu:u.ownBlock with
 |none=>exact .inl rfl
 |some q =>
  obtain ⟨k1,⟨rfl,_⟩|⟨g,cap,cur,rfl,_,h4,_⟩⟩:=k
  ·cases hu
  ·obtain rfl:g=q:=by simpa[Value.ownBlock] using hu
   exact .inr (fun e=>bF h h4 ht e.symm)
end Go.Proofs.YtmlphohdcejniaaGreatDoor
namespace Go.Proofs.YtmlphohdcejniaaGreatDoor
open Go.RowKit Go.Lib
attribute [local go_sem ↓] Go.wp_at_zero Go.wp_at_succ
end Go.Proofs.YtmlphohdcejniaaGreatDoor
namespace Go.Proofs.YtmlphohdcejniaaGreatDoor
open Go.RowKit
theorem cU {Q:ByteArray}{p c:Nat}{R:List Nat} (h:(aG Q).drop p=c::R):p<Q.size∧ax Q p=c:=by
 have h0:((aG Q).drop p)[0]?=some c:=by rw[h];rfl
 rw[List.getElem?_drop,Nat.add_zero] at h0
 have hl:=(zB h0).1
 rw[bd] at hl
 rw[eJ Q p hl] at h0
 exact ⟨hl,zC h0⟩
theorem cT {Q:ByteArray}{p:Nat}{A R:List Nat} (h:(aG Q).drop p=A++R):(aG Q).drop (p+A.length)=R:=by
 rw[←List.drop_drop,h,List.drop_append_of_le_length (zD _)]
 simp
theorem RE {s:ByteArray}{k n j:Nat} (hn:k+n≤s.size) (hj:j<n):(sub s k n)[j]?=some (ax s (k+j)):=by
 unfold sub
 rw[List.getElem?_take,if_pos hj,List.getElem?_drop,eJ s (k+j) (by omega)]
theorem pb {s:ByteArray}{p c:Nat}{R:List Nat} (h:(aG s).drop p=c::R) (hc:lk c):bz s s.size p=bz s s.size (p+1):=by
 obtain ⟨h1,h2⟩:=cU h
 exact vt h1 (by rw[h2];exact hc)
theorem FC {s:ByteArray}:∀(A R:List Nat) (p:Nat),(aG s).drop p=A++10::R→(∀c ∈ A,c≠10)→jB s p=p+A.length
 |[],R,p,h,_=>by
  obtain ⟨h1,h2⟩:=cU h
  rw[jB,dif_neg (fun q=>q.2 h2)]
  rfl
 |c::A,R,p,h,hc=>by
  obtain ⟨h1,h2⟩:=cU h
  rw[jB,dif_pos ⟨h1,by rw[h2];exact hc c List.mem_cons_self⟩,FC A R (p+1) (cT (A:=[c]) h) (fun x hx=>hc x (zF _ hx)),List.length_cons]
  omega
def zT:List Nat→Prop
 |[]=>True
 |[_]=>True
 |c::d::r=>¬(c=42∧d=47)∧zT (d::r)
theorem qm {s:ByteArray}:∀(A R:List Nat) (p:Nat),(aG s).drop p=A++42::47::R→zT A→dk s p=p+A.length
 |[],R,p,h,_=>by
  obtain ⟨h1,h2⟩:=cU h
  obtain ⟨h3,h4⟩:=cU (cT (A:=[42]) h)
  rw[dk,dif_neg (fun q=>q.2 ⟨h2,h4⟩)]
  rfl
 |[c],R,p,h,_=>by
  obtain ⟨h1,h2⟩:=cU h
  obtain ⟨h3,h4⟩:=cU (cT (A:=[c]) h)
  rw[dk,dif_pos ⟨by show p+1<s.size;exact h3,fun q=>by have:=q.2;rw[show p+1=p+[c].length from rfl,h4] at this;omega⟩,qm [] R (p+1) (cT (A:=[c]) h) trivial]
  rfl
 |c::d::A,R,p,h,hn=>by
  obtain ⟨h1,h2⟩:=cU h
  obtain ⟨h3,h4⟩:=cU (cT (A:=[c]) h)
  rw[dk,dif_pos ⟨by show p+1<s.size;exact h3,fun q=>hn.1 ⟨h2.symm.trans q.1,by rw[←h4];exact q.2⟩⟩,qm (d::A) R (p+1) (cT (A:=[c]) h) hn.2]
  simp only[List.length_cons]
  omega
theorem pl {s:ByteArray}{p:Nat} (A R:List Nat) (h:(aG s).drop p=47::47::(A++10::R)) (hc:∀c ∈ A,c≠10):bz s s.size p=bz s s.size (p+(A.length+2)):=by
 obtain ⟨h1,h2⟩:=cU h
 obtain ⟨h3,h4⟩:=cU (cT (A:=[47]) h)
 rw[yv h3 h2 h4,FC (47::47::A) R p h (fun c fX=>by
  rcases List.mem_cons.1 fX with rfl|fX
  ·decide
  ·rcases List.mem_cons.1 fX with rfl|fX
   ·decide
   ·exact hc c fX)]
 rfl
theorem ps {s:ByteArray}{p:Nat} (A R:List Nat) (h:(aG s).drop p=47::42::(A++42::47::R)) (hn:zT A):bz s s.size p=bz s s.size (p+(A.length+4)):=by
 obtain ⟨h1,h2⟩:=cU h
 obtain ⟨h3,h4⟩:=cU (cT (A:=[47]) h)
 have h5:(aG s).drop (p+2)=A++42::47::R:=cT (A:=[47,42]) h
 have Iy:=qm A R (p+2) h5 hn
 obtain ⟨h6,_⟩:=cU (cT (A:=[42]) (cT (A:=A) h5))
 have h7:p+2+A.length+1<s.size:=h6
 rw[yu h3 h2 h4 (by rw[Iy];omega),Iy,show p+2+A.length+2=p+(A.length+4) by omega]
structure zd (s:ByteArray) (t:Tok) (e:Nat):Prop where
 lt:t.place<s.size
 one:dX s t.place=(t.kind,e,0)
 text:t.text=s.extract t.place e
 le:e≤s.size
 gt:t.place<e
theorem zd.size {s:ByteArray}{t:Tok}{e:Nat} (g:zd s t e):t.text.size=e-t.place:=by rw[g.text,extract_size s _ _ g.le]
theorem zd.str {s:ByteArray}{t:Tok}{e:Nat} (g:zd s t e):aG t.text=sub s t.place (e-t.place):=by rw[g.text,bc];rfl
theorem wL (s:ByteArray) (k j:Nat) (h1:k≤j) (h2:j<dS s k):isLet (ax s j)∨bX (ax s j):=by
 rw[dS] at h2
 split at h2
 ·rename_i h
  by_cases e:j=k
  ·subst e;exact h.2
  ·exact wL s (k+1) j (by omega) h2
 ·omega
termination_by s.size-k
decreasing_by omega
theorem wM {B q:Nat} (hq:qy B q=none) (R1 R2:List Nat):∀(A:List Nat) (f v n:Nat),dI B f (A++q::R1) v n=dI B f (A++q::R2) v n
 |[],f,v,n=>by
  show dI B f (q::R1) v n=dI B f (q::R2) v n
  rw[lA hq,lA hq]
 |c::A,0,v,n=>by rw[lz,lz]
 |c::A,f+1,v,n=>by
  show dI B (f+1) (c::(A++q::R1)) v n=dI B (f+1) (c::(A++q::R2)) v n
  cases h:qy B c with
  |none=>rw[lA h,lA h]
  |some d=>rw[qK h,qK h,wM hq R1 R2 A f]
theorem Mh {q:Nat} (hq:q=39∨q=34) (R1 R2:List Nat) (a:Nat):∀(A:List Nat),fy (a::(A++q::R1))=fy (a::(A++q::R2))
 |[]=>by
  show fy (a::q::R1)=fy (a::q::R2)
  rcases hq with rfl|rfl<;>rfl
 |c::A=>by
  show fy (a::c::(A++q::R1))=fy (a::c::(A++q::R2))
  have d16:qy 16 q=none:=by rcases hq with rfl|rfl<;>rfl
  have d8:qy 8 q=none:=by rcases hq with rfl|rfl<;>rfl
  rw[fy,fy,wM d16 R1 R2 A,show c::(A++q::R1)=(c::A)++q::R1 from rfl,show c::(A++q::R2)=(c::A)++q::R2 from rfl,wM d8 R1 R2 (c::A)]
theorem N8 {s Q:ByteArray}{q:Nat} (hq:q=39∨q=34):∀(m:Nat) (A R1 R2 l:List Nat) (k p:Nat),A.length≤m→(aG s).drop k=A++q::R1→(aG Q).drop p=A++q::R2→fR s q k=some (l,k+A.length+1)→fR Q q p=some (l,p+A.length+1):=by
 intro m
 induction m with
 |zero =>
  intro A R1 R2 l k p hm h1 h2 hu
  obtain rfl:=List.eq_nil_of_length_eq_zero (Nat.le_zero.1 hm)
  obtain ⟨a1,a2⟩:=cU h1
  obtain ⟨b1,b2⟩:=cU h2
  rw[gP a1 a2] at hu
  have:=(Prod.mk.inj (zC hu)).1
  rw[gP b1 b2,←this]
  rfl
 |succ m ih =>
  intro A R1 R2 l k p hm h1 h2 hu
  cases A with
  |nil=>exact ih [] R1 R2 l k p (by simp) h1 h2 hu
  |cons c A =>
   obtain ⟨a1,a2⟩:=cU h1
   obtain ⟨b1,b2⟩:=cU h2
   by_cases Ak:c=q
   ·rw[gP a1 (a2.trans Ak)] at hu
    have:=(Prod.mk.inj (zC hu)).2
    rw[List.length_cons] at this
    omega
   ·have hp:cP Q p=cP s k:=by
     unfold cP
     rw[a2,b2,h1,h2]
     split
     ·rfl
     ·split
      ·exact (Mh hq R1 R2 c A).symm
      ·rfl
    cases SA:cP s k with
    |none=>rw[qh a1 (by rw[a2];exact Ak) SA] at hu;cases hu
    |some t =>
     obtain ⟨b,n⟩:=t
     obtain ⟨p1,p2,p3⟩:=gH SA a1
     rw[ku a1 (by rw[a2];exact Ak) SA] at hu
     obtain ⟨⟨l',e'⟩,Qv,hu2⟩:=Option.map_eq_some_iff.1 hu
     obtain ⟨rfl,he⟩:=Prod.mk.inj hu2
     have he:e'=k+(c::A).length+1:=he
     obtain ⟨u1,_⟩:=x9 _ (k+n) l' e' (zD _) Qv
     have hn:n≤(c::A).length:=by omega
     have Lj:c::A=(c::A).take n++(c::A).drop n:=(List.take_append_drop n _).symm
     have hl:((c::A).take n).length=n:=by rw[List.length_take];omega
     have g1:(aG s).drop (k+n)=(c::A).drop n++q::R1:=by
      have:=cT (Q:=s) (p:=k) (A:=(c::A).take n) (R:=(c::A).drop n++q::R1) (by rw[h1,←List.append_assoc,←Lj])
      rwa [hl] at this
     have g2:(aG Q).drop (p+n)=(c::A).drop n++q::R2:=by
      have:=cT (Q:=Q) (p:=p) (A:=(c::A).take n) (R:=(c::A).drop n++q::R2) (by rw[h2,←List.append_assoc,←Lj])
      rwa [hl] at this
     have SN:((c::A).drop n).length=(c::A).length-n:=List.length_drop
     have hi:=ih ((c::A).drop n) R1 R2 l' (k+n) (p+n) (by rw[List.length_cons] at hm SN;omega) g1 g2 (by rw[Qv,he,SN];congr 2;omega)
     rw[ku b1 (by rw[b2];exact Ak) (hp.trans SA),hi,SN]
     show some (b::l',p+n+((c::A).length-n)+1)=_
     congr 2
     omega
theorem N7 {s:ByteArray}{q:Nat}:∀{k:Nat}{l:List Nat}{e:Nat},fR s q k=some (l,e)→ax s (e-1)=q:=by
 have:∀(m k:Nat) (l:List Nat) (e:Nat),s.size-k≤m→fR s q k=some (l,e)→ax s (e-1)=q:=by
  intro m
  induction m with
  |zero=>intro k l e hm h;rw[lF (by omega)] at h;cases h
  |succ m ih =>
   intro k l e hm h
   by_cases hk:k<s.size
   ·by_cases hq:ax s k=q
    ·rw[gP hk hq] at h
     have:=(Prod.mk.inj (zC h)).2
     rw[←this]
     exact hq
    ·cases hp:cP s k with
     |none=>rw[qh hk hq hp] at h;cases h
     |some t =>
      obtain ⟨b,n⟩:=t
      obtain ⟨p1,p2,p3⟩:=gH hp hk
      rw[ku hk hq hp] at h
      obtain ⟨⟨l',e'⟩,h1,h2⟩:=Option.map_eq_some_iff.1 h
      have h3:e'=e:=(Prod.mk.inj h2).2
      rw[←h3]
      exact ih (k+n) l' e' (by omega) h1
   ·rw[lF hk] at h;cases h
 intro k l e h
 exact this _ k l e (zD _) h
theorem H7 {s B:ByteArray}{t:Tok}{e p c:Nat}{R:List Nat} (g:zd s t e) (h:(aG B).drop p=aG t.text++c::R) (hcn:¬(isLet c∨bX c)):dX B p=(t.kind,p+t.text.size,0)∧bz B B.size p=(p,true)∧p<B.size∧B.extract p (p+t.text.size)=t.text:=by
 have bR:=g.size
 have FR:=g.gt
 have hle:=g.le
 have dY:=g.one
 have hlen:(aG t.text).length=t.text.size:=bd _
 have hBl:p+t.text.size+1≤B.size:=by
  have:=congrArg List.length h
  rw[List.length_drop,bd,zK,hlen,List.length_cons] at this
  omega
 have hb:∀j,j<t.text.size→ax B (p+j)=ax s (t.place+j):=fun j hj=>by
  have e1:((aG B).drop p)[j]?=some (ax s (t.place+j)):=by rw[h,List.getElem?_append_left (by omega),g.str,RE (by omega) (by omega)]
  rw[List.getElem?_drop,eJ B (p+j) (by omega)] at e1
  exact zC e1
 have ba:ax B (p+t.text.size)=c:=by
  have:=(cU (cT (A:=aG t.text) h)).2
  rwa [hlen] at this
 have dN:ax B p=ax s t.place:=by
  have:=hb 0 (by omega)
  rwa [Nat.add_zero,Nat.add_zero] at this
 have hx:B.extract p (p+t.text.size)=t.text:=by
  apply oV
  rw[bc,h,show p+t.text.size-p=(aG t.text).length by omega,List.take_left']
  rfl
 have cC:dS s t.place=e→dS B p=p+t.text.size:=fun he=>by
  refine nt B t.text.size p (fun j hj=>⟨by omega,?_⟩) (fun _=>by rw[ba];exact hcn)
  rw[hb j hj]
  exact wL s t.place (t.place+j) (by omega) (by omega)
 refine ⟨?_,?_,by omega,hx⟩
 ·unfold dX at dY ⊢
  rw[dN]
  by_cases h1:isLet (ax s t.place)
  ·rw[if_pos h1] at dY ⊢
   obtain ⟨e1,e2⟩:=Prod.mk.inj dY
   have e3:=(Prod.mk.inj e2).1
   rw[cC e3,←e1]
  ·rw[if_neg h1] at dY ⊢
   by_cases h2:bX (ax s t.place)
   ·rw[if_pos h2] at dY ⊢
    split at dY
    ·cases (Prod.mk.inj (Prod.mk.inj dY).2).2
    ·rename_i hw
     obtain ⟨e1,e2⟩:=Prod.mk.inj dY
     have e3:=(Prod.mk.inj e2).1
     rw[cC e3,hx,if_neg (by rw[g.text,←e3];exact hw),←e1]
   ·rw[if_neg h2] at dY ⊢
    by_cases h3:ax s t.place=39∨ax s t.place=34
    ·rw[if_pos h3] at dY ⊢
     split at dY
     ·cases (Prod.mk.inj (Prod.mk.inj dY).2).2
     ·rename_i l e' hu
      obtain ⟨e1,e2⟩:=Prod.mk.inj dY
      have e3:e'=e:=(Prod.mk.inj e2).1
      subst e3
      have ib:=N7 hu
      obtain ⟨u1,u2,_⟩:=x9 _ (t.place+1) l e' (zD _) hu
      obtain ⟨A,hA⟩:∃A,A=sub s (t.place+1) (e'-t.place-2):=⟨_,rfl⟩
      have hAl:A.length=e'-t.place-2:=by rw[hA];exact Oi (by omega)
      have Lm:(aG s).drop (t.place+1)=A++ax s t.place::(aG s).drop e':=by
       have gO:e'-1<(aG s).length:=by rw[bd];omega
       have hd:(aG s).drop (e'-1)=ax s t.place::(aG s).drop e':=by
        rw[List.drop_eq_getElem_cons gO,show e'-1+1=e' by omega]
        congr 1
        have:=eJ s (e'-1) (by omega)
        rw[List.getElem?_eq_getElem gO] at this
        exact (zC this).trans ib
       rw[←hd,hA]
       unfold sub
       rw[show (aG s).drop (e'-1)=((aG s).drop (t.place+1)).drop (e'-t.place-2) by rw[List.drop_drop];congr 1;omega,List.take_append_drop]
      have Ec:(aG B).drop (p+1)=A++ax s t.place::(c::R):=by
       have ht:aG t.text=ax s t.place::(A++[ax s t.place]):=by
        rw[g.str]
        unfold sub
        have ND:t.place<(aG s).length:=by rw[bd];omega
        rw[List.drop_eq_getElem_cons ND,Lm]
        have h00:(aG s)[t.place]=ax s t.place:=by
         have:=eJ s t.place (by omega)
         rw[List.getElem?_eq_getElem ND] at this
         exact zC this
        rw[h00,show e'-t.place=(A.length+1)+1 by omega,List.take_succ_cons]
        congr 1
        rw[List.take_append,List.take_of_length_le (by omega),show A.length+1-A.length=1 by omega]
        rfl
       have:=cT (Q:=B) (p:=p) (A:=[ax s t.place]) (R:=A++ax s t.place::(c::R)) (by rw[h,ht];simp)
       exact this
      have fX:=N8 h3 A.length A _ _ l (t.place+1) (p+1) (zD _) Lm Ec (by rw[hu];congr 2;omega)
      rw[fX,←e1]
      show (3,p+1+A.length+1,0)=_
      congr 2
      omega
    ·rw[if_neg h3] at dY ⊢
     split at dY
     ·rename_i h4
      obtain ⟨e1,e2⟩:=Prod.mk.inj dY
      have e3:=(Prod.mk.inj e2).1
      rw[if_pos h4,←e1,show t.text.size=1 by omega]
     ·cases (Prod.mk.inj (Prod.mk.inj dY).2).2
 ·have Ww:¬lk (ax s t.place)∧¬ax s t.place=47:=by
   have W7:isLet (ax s t.place)∨bX (ax s t.place)∨(ax s t.place=39∨ax s t.place=34)∨iK (ax s t.place):=by
    unfold dX at dY
    by_cases h1:isLet (ax s t.place)
    ·exact .inl h1
    ·rw[if_neg h1] at dY
     by_cases h2:bX (ax s t.place)
     ·exact .inr (.inl h2)
     ·rw[if_neg h2] at dY
      by_cases h3:ax s t.place=39∨ax s t.place=34
      ·exact .inr (.inr (.inl h3))
      ·rw[if_neg h3] at dY
       by_cases h4:iK (ax s t.place)
       ·exact .inr (.inr (.inr h4))
       ·rw[if_neg h4] at dY
        cases (Prod.mk.inj (Prod.mk.inj dY).2).2
   unfold isLet bX iK at W7
   unfold lk
   simp only[List.mem_cons,List.mem_nil_iff,or_false] at W7
   omega
  exact im (by omega) (by rw[dN];exact Ww.1) (by rw[dN];exact Ww.2)
def dec (u:Nat):ByteArray:=⟨(Lib.decDigits u).toArray⟩
theorem BR (B M:Nat):∀(a b:List Nat) (n:Nat),cA B M (a++b) n=match cA B M a n with
  |none=>none
  |some m=>cA B M b m
 |[],b,n=>rfl
 |c::a,b,n=>by
  show cA B M (c::(a++b)) n=_
  rw[cA,cA]
  cases CF c with
  |none=>rfl
  |some d =>
   simp only
   split
   ·exact BR B M a b _
   ·rfl
theorem Ge {d:Nat} (h:d<10):CF (48+d)=some d:=by
 have:∀x:Fin 10,CF (48+x.val)=some x.val:=by decide
 exact this ⟨d,h⟩
theorem uQ {d:Nat} (h:d<10):(UInt8.ofNat (48+d)).toNat=48+d:=by simp;omega
theorem Gf:∀(u:Nat),∀x ∈ (Lib.decDigits u).map UInt8.toNat,48≤x∧x≤57:=by
 intro u
 induction u using Nat.strongRecOn with
 |_ u ih =>
  intro x hx
  rw[Lib.decDigits] at hx
  split at hx
  ·rename_i h
   rw[List.map_singleton,List.mem_singleton,uQ h] at hx
   omega
  ·rename_i h
   rw[List.map_append,List.mem_append] at hx
   rcases hx with hx|hx
   ·exact ih (u / 10) (by omega) x hx
   ·rw[List.map_singleton,List.mem_singleton,uQ (by omega)] at hx
    omega
theorem PG:∀(u:Nat),u≤2147483648→cA 10 9223372036854775807 ((Lib.decDigits u).map UInt8.toNat) 0=some u:=by
 intro u
 induction u using Nat.strongRecOn with
 |_ u ih =>
  intro hu
  rw[Lib.decDigits]
  split
  ·rename_i h
   rw[List.map_singleton,uQ h,cA,Ge h]
   simp only
   rw[if_pos ⟨h,by omega⟩,cA]
   congr 1
   omega
  ·rename_i h
   rw[List.map_append,BR,ih (u / 10) (by omega) (by omega)]
   simp only
   rw[List.map_singleton,uQ (by omega),cA,Ge (by omega)]
   simp only
   rw[if_pos ⟨by omega,by omega⟩,cA]
   congr 1
   omega
theorem IQ:∀(u:Nat),1≤u→∃c r,(Lib.decDigits u).map UInt8.toNat=c::r∧c≠48:=by
 intro u
 induction u using Nat.strongRecOn with
 |_ u ih =>
  intro hu
  rw[Lib.decDigits]
  split
  ·rename_i h
   exact ⟨48+u,[],by rw[List.map_singleton,uQ h],by omega⟩
  ·rename_i h
   obtain ⟨c,r,h1,h2⟩:=ih (u / 10) (by omega) (by omega)
   exact ⟨c,_,by rw[List.map_append,h1];rfl,h2⟩
theorem PH (u:Nat):aG (dec u)=(Lib.decDigits u).map UInt8.toNat:=rfl
theorem My {u:Nat} (h:u≤2147483648):wv (aG (dec u))=some u:=by
 rw[PH]
 by_cases h0:u=0
 ·subst h0
  rw[Lib.decDigits,dif_pos (by decide)]
  rfl
 ·obtain ⟨c,r,h1,h2⟩:=IQ u (by omega)
  have hv:=PG u h
  rw[h1] at hv ⊢
  unfold wv
  rw[if_neg,if_neg,if_neg (by simp)]
  ·exact hv
  ·show ¬[c]=[48]
   simpa using h2
  ·rintro (q|q)
   ·cases r<;>simp at q
    exact h2 q.1
   ·cases r<;>simp at q
    exact h2 q.1
theorem CG {u:Nat} (h:u≤2147483648):1≤(dec u).size∧(dec u).size≤20:=by
 have e:(dec u).size=(Lib.decDigits u).length:=rfl
 rw[e,Lib.decDigits_length]
 exact ⟨Lib.nDigits_pos u,Lib.nDigits_le20 u (by omega)⟩
theorem BT (u:Nat) (h:u≤2147483648):iF (dec u)=((u:Int),0):=by
 unfold iF
 rw[if_neg (by have:=(CG h).2;omega),My h]
def aU (x:ByteArray):Prop:=lT x=true∧1≤x.size∧x.size≤30
theorem vE {x:ByteArray} (h:aU x):(∀k,k<x.size→isLet (ax x k)∨bX (ax x k))∧isLet (ax x 0):=by
 have hp:l8 x:=by have:=h.1;unfold lT at this;exact of_decide_eq_true this
 exact ⟨fun k hk=>hp.2.2 k _ (eJ x k hk),hp.2.1 _ (eJ x 0 (by have:=h.2.1;omega))⟩
def lit (q:UInt8) (x:ByteArray):ByteArray:=(⟨#[q]⟩++x)++⟨#[q]⟩
theorem tT (q:UInt8) (x:ByteArray):aG (lit q x)=q.toNat::(aG x++[q.toNat]):=by
 unfold lit aG
 rw[ByteArray.data_append,ByteArray.data_append]
 simp
theorem vM (q:UInt8) (x:ByteArray):(lit q x).size=x.size+2:=by
 rw[←bd,tT]
 simp[bd]
theorem JI {Q:ByteArray}{q:Nat} (hq:q=39∨q=34):∀(A R:List Nat) (p:Nat),(aG Q).drop p=A++q::R→(∀c ∈ A,isLet c∨bX c)→fR Q q p=some (A,p+A.length+1)
 |[],R,p,h,_=>by
  obtain ⟨h1,h2⟩:=cU h
  rw[gP h1 h2]
  rfl
 |c::A,R,p,h,hc=>by
  obtain ⟨h1,h2⟩:=cU (R:=A++q::R) h
  have SP:=hc c List.mem_cons_self
  unfold isLet bX at SP
  have hp:cP Q p=some (c,1):=by
   unfold cP
   rw[h2,if_neg (by omega),if_neg (by omega)]
  have hn:(aG Q).drop (p+1)=A++q::R:=cT (A:=[c]) h
  rw[ku h1 (by rw[h2];omega) hp,JI hq A R (p+1) hn (fun x hx=>hc x (zF _ hx)),List.length_cons,show p+1+A.length+1=p+(A.length+1)+1 by omega]
  rfl
theorem nf {x:ByteArray} (h:aU x):∀c ∈ aG x,isLet c∨bX c:=fun c hc=>by
 obtain ⟨j,hj⟩:=List.getElem?_of_mem hc
 have hl:j<x.size:=by
  have:=(zB hj).1
  rwa [bd] at this
 rw[eJ x j hl] at hj
 rw[←zC hj]
 exact (vE h).1 j hl
theorem K5 {q:UInt8}{x:ByteArray} (hq:q=39∨q=34) (h:aU x):fR (lit q x) q.toNat 1=some (aG x,(lit q x).size):=by
 have hs:(aG (lit q x)).drop 1=aG x++q.toNat::[]:=by rw[tT];rfl
 rw[JI (by rcases hq with rfl|rfl<;>decide) (aG x) [] 1 hs (nf h),bd,vM]
 congr 2
 omega
theorem B5 (q:UInt8) (x:ByteArray):ax (lit q x) 0=q.toNat:=(cU (R:=aG x++[q.toNat]) (p:=0) (by rw[tT];rfl)).2
theorem FI {q:UInt8}{x:ByteArray} (hq:q=39∨q=34) (h:aU x):∀c ∈ aG (lit q x),c<128:=fun c hc=>by
 rw[tT] at hc
 have h1:q.toNat<128:=by rcases hq with rfl|rfl<;>decide
 rcases List.mem_cons.1 hc with rfl|hc
 ·exact h1
 ·rcases List.mem_append.1 hc with hc|hc
  ·have:=nf h c hc
   unfold isLet bX at this
   omega
  ·rw[List.mem_singleton.1 hc];exact h1
theorem Fb {s:ByteArray} (h:∀c ∈ aG s,c<128):cX s 0=-1:=GB (fun k hk=>h _ (List.mem_of_getElem? (eJ s k hk))) s.size 0 (by omega)
theorem zk (q:UInt8) (x:ByteArray) (hq:q=39∨q=34) (h:aU x):fN (lit q x)=(x,0):=by
 have h1:=vM q x
 have h2:=h.2.2
 have hu:kJ (lit q x)=some (aG x,(lit q x).size):=by
  unfold kJ
  rw[if_neg (by omega),B5,if_pos (by rcases hq with rfl|rfl<;>decide)]
  exact K5 hq h
 unfold fN
 rw[if_neg (by omega),if_neg (by rw[Fb (FI hq h)];decide),hu]
 simp only
 rw[if_pos trivial]
 congr 1
 unfold rO aG
 obtain ⟨⟨l⟩⟩:=x
 simp only[List.map_map]
 congr 2
 exact (List.map_congr_left (g:=id) fun c _=>by simp).trans (List.map_id l)
theorem Bl:aU ⟨#[112,114,111,116,111,51]⟩:=by
 refine ⟨?_,by decide,by decide⟩
 kernel_rfl
end Go.Proofs.YtmlphohdcejniaaGreatDoor

import Derived.Test.YtmlphohdcejniaaGreatDoorVW
namespace Go.Proofs.YtmlphohdcejniaaGreatDoor
open Go.RowKit
theorem Sj:(Tryz.prog.info? 64).map (fun i=>(i.zero,i.size,i.bytes))=some (some (.agg #[.string ByteArray.empty,.slice none 0 0,.slice none 0 0,.slice none 0 0,.slice none 0 0,.slice none 0 0,.slice none 0 0]),7,160):=by kernel_rfl
theorem Sk:(Tryz.prog.info? 70).map (fun i=>(i.zero,i.size,i.bytes))=some (some (.agg #[.int .i64 0,.string ByteArray.empty,.string ByteArray.empty,.string ByteArray.empty,.int .i64 0,.int .i64 0]),6,72):=by kernel_rfl
theorem Sh:(Tryz.prog.info? 9).map (fun i=>(i.zero,i.size,i.bytes))=some (some (.string ByteArray.empty),1,16):=by kernel_rfl
structure tL (wo w:World) (b:Nat) (uf uo ur ug:Value) (nm:ByteArray) (fs:List Fd) (os:List ByteArray) (rs:List (Int×Int)) (gs:List ByteArray):Prop where
 ez:Below wo.heap.size wo w
 low:wo.heap.size≤b
 dt:w.heap[b]?=some (.cells #[.string nm,uf,uo,.slice none 0 0,.slice none 0 0,ur,ug] 64 (0,0))
 f:w.ownsRow wo.heap.size 70 6 uf fs.length (gX fs)
 o:w.ownsRow wo.heap.size 9 1 uo os.length (bS os)
 r:w.ownsRow wo.heap.size 111 2 ur rs.length (kz rs)
 g:w.ownsRow wo.heap.size 9 1 ug gs.length (bS gs)
 og:ug.ownBlock=none∨ug.ownBlock≠uo.ownBlock
section
variable {wo w : World} {b : Nat} {uf uo ur ug : Value} {nm : ByteArray} {fs : List Fd} {os : List ByteArray} {rs : List (Int × Int)} {gs : List ByteArray}
theorem tL.below (h:tL wo w b uf uo ur ug nm fs os rs gs) {w':World} (hb:Below w.heap.size w w'):tL wo w' b uf uo ur ug nm fs os rs gs :=
 ⟨h.ez.trans (hb.mono h.ez.size),h.low,(hb.block _ (zA h.dt).1).trans h.dt,ct h.f hb,ct h.o hb,ct h.r hb,ct h.g hb,h.og⟩
theorem tL.new {x0 x1 x2 x3 x4 x5 x6:Value} (hb:Below wo.heap.size wo w) (dr:wo.heap.size≤b) (hk:w.heap[b]?=some (.cells #[x0,x1,x2,x3,x4,x5,x6] 64 (0,0))) (hr:w.ownsRow wo.heap.size 111 2 ur rs.length (kz rs)) (hg:w.ownsRow wo.heap.size 9 1 ug gs.length (bS gs)) :
  tL wo (((((((w.setCell ⟨b,0,none⟩ (.string nm)).setCell ⟨b,1,none⟩ (.slice none 0 0)).setCell ⟨b,2,none⟩ (.slice none 0 0)).setCell ⟨b,3,none⟩ (.slice none 0 0)).setCell ⟨b,4,none⟩ (.slice none 0 0)).setCell ⟨b,5,none⟩ ur).setCell ⟨b,6,none⟩ ug) b (.slice none 0 0) (.slice none 0 0) ur ug nm [] [] rs gs:=by
 obtain ⟨a1,a2⟩:=aJ (j:=0) hk (.string nm)
 obtain ⟨b1,b2⟩:=aJ (j:=1) a1 (.slice none 0 0)
 obtain ⟨c1,c2⟩:=aJ (j:=2) b1 (.slice none 0 0)
 obtain ⟨d1,d2⟩:=aJ (j:=3) c1 (.slice none 0 0)
 obtain ⟨e1,e2⟩:=aJ (j:=4) d1 (.slice none 0 0)
 obtain ⟨f1,f2⟩:=aJ (j:=5) e1 ur
 obtain ⟨g1,g2⟩:=aJ (j:=6) f1 ug
 have tX:=(((((a2.trans b2).trans c2).trans d2).trans e2).trans f2).trans g2
 exact ⟨hb.grown tX hb.size (fun k e=>by obtain rfl:=zC e;exact dr),dr,g1,⟨rfl,.inl ⟨rfl,rfl⟩⟩,⟨rfl,.inl ⟨rfl,rfl⟩⟩,hr.kept tX (.inr (bF hr hk (by decide))),hg.kept tX (.inr (bF hg hk (by decide))),by cases ug.ownBlock with|none=>exact .inl rfl|some q=>exact .inr (by simp[Value.ownBlock])⟩
theorem tL.fields (h:tL wo w b uf uo ur ug nm fs os rs gs) {w2:World}{u:Value}{d:Fd} (hg:w.grownBy w2 uf.ownBlock) (ho:w2.ownsRow wo.heap.size 70 6 u (fs.length+1) (gX fs++d.arr.toList)):tL wo (w2.setCell ⟨b,1,none⟩ u) b u uo ur ug nm (fs++[d]) os rs gs:=by
 have gO:=(hg.block _ (zA h.dt).1 (fun e=>bF h.f h.dt (by decide) e.symm)).trans h.dt
 obtain ⟨a1,a2⟩:=aJ (j:=1) gO u
 have k1:=h.o.kept hg (lL h.f h.o (by decide))
 have k2:=h.r.kept hg (lL h.f h.r (by decide))
 have k3:=h.g.kept hg (lL h.f h.g (by decide))
 have e1:gX (fs++[d])=gX fs++d.arr.toList:=by unfold gX;rw[List.flatMap_append];simp
 refine ⟨(h.ez.grown hg h.ez.size (fun j e=>(h.f.lt j e).1)).grown a2 (Nat.le_trans h.ez.size hg.size) (fun k e=>by obtain rfl:=zC e;exact h.low),h.low,a1,?_,k1.kept a2 (.inr (bF k1 gO (by decide))),k2.kept a2 (.inr (bF k2 gO (by decide))),k3.kept a2 (.inr (bF k3 gO (by decide))),h.og⟩
 rw[e1,zK]
 exact ho.kept a2 (.inr (bF ho gO (by decide)))
theorem tL.OB (h:tL wo w b uf uo ur ug nm fs os rs gs) {w2:World}{u:Value}{x:ByteArray} (hg:w.grownBy w2 uo.ownBlock) (ho:w2.ownsRow wo.heap.size 9 1 u (os.length+1) (bS os++[.string x])) (yC:u.ownBlock=uo.ownBlock∨u.ownBlock=some w.heap.size):tL wo (w2.setCell ⟨b,2,none⟩ u) b uf u ur ug nm fs (os++[x]) rs gs:=by
 have gO:=(hg.block _ (zA h.dt).1 (fun e=>bF h.o h.dt (by decide) e.symm)).trans h.dt
 obtain ⟨a1,a2⟩:=aJ (j:=2) gO u
 have k1:=h.f.kept hg (lL h.o h.f (by decide))
 have k2:=h.r.kept hg (lL h.o h.r (by decide))
 have k3:=h.g.kept hg h.og
 have e1:bS (os++[x])=bS os++[.string x]:=by unfold bS;simp
 refine ⟨(h.ez.grown hg h.ez.size (fun j e=>(h.o.lt j e).1)).grown a2 (Nat.le_trans h.ez.size hg.size) (fun k e=>by obtain rfl:=zC e;exact h.low),h.low,a1,k1.kept a2 (.inr (bF k1 gO (by decide))),?_,k2.kept a2 (.inr (bF k2 gO (by decide))),k3.kept a2 (.inr (bF k3 gO (by decide))),?_⟩
 ·rw[e1,zK]
  exact ho.kept a2 (.inr (bF ho gO (by decide)))
 ·cases hu:ug.ownBlock with
  |none=>exact .inl rfl
  |some q =>
   refine .inr (fun e=>?_)
   rcases yC with e2|e2
   ·rcases h.og with e3|e3
    ·rw[hu] at e3;cases e3
    ·exact e3 (by rw[hu,e,e2])
   ·have:=(h.g.lt q hu).2
    rw[e2] at e
    obtain rfl:=zC e
    omega
end
def Rb (wo:World) (b g:Nat):Prop:=wo.heap.size≤g∧g≠b
structure Fa (wo w:World) (b:Nat) (uf uo um ue ur ug:Value) (cm ce:List Value) (nm:ByteArray) (fs:List Fd) (os:List ByteArray) (ms:List Ms) (es:List En) (rs:List (Int×Int)) (gs:List ByteArray):Prop where
 ez:Below wo.heap.size wo w
 low:wo.heap.size≤b
 dt:w.heap[b]?=some (.cells #[.string nm,uf,uo,um,ue,ur,ug] 64 (0,0))
 f:eQ (Rb wo b) w 70 6 uf fs.length (gX fs)
 o:eQ (Rb wo b) w 9 1 uo os.length (bS os)
 m:eQ (Rb wo b) w 64 7 um ms.length cm
 ms:di (Rb wo b) w cm ms
 e:eQ (Rb wo b) w 68 4 ue es.length ce
 es:eC (Rb wo b) w ce es
 r:eQ (Rb wo b) w 111 2 ur rs.length (kz rs)
 g:eQ (Rb wo b) w 9 1 ug gs.length (bS gs)
section
variable {wo w : World} {b : Nat} {uf uo um ue ur ug : Value} {cm ce : List Value} {nm : ByteArray} {fs : List Fd} {os : List ByteArray} {ms : List Ms} {es : List En} {rs : List (Int × Int)} {gs : List ByteArray}
theorem Fs {e size n:Nat}{v:Value}{xs:List Value}{c:Array Value} (h:w.ownsRow wo.heap.size e size v n xs) (hb:w.heap[b]?=some (.cells c 64 (0,0))) (ht:e≠64):eQ (Rb wo b) w e size v n xs :=
 ⟨eh h (Nat.zero_le _),fun _ q=>⟨(h.lt _ q).1,fun k=>bF h hb ht (k ▸ q)⟩⟩
theorem tL.done (h:tL wo w b uf uo ur ug nm fs os rs gs):Fa wo w b uf uo (.slice none 0 0) (.slice none 0 0) ur ug [] [] nm fs os [] [] rs gs :=
 ⟨h.ez,h.low,h.dt,Fs h.f h.dt (by decide),Fs h.o h.dt (by decide),⟨⟨rfl,.inl ⟨rfl,rfl⟩⟩,fun _ q=>by cases q⟩,.nil,⟨⟨rfl,.inl ⟨rfl,rfl⟩⟩,fun _ q=>by cases q⟩,.nil,Fs h.r h.dt (by decide),Fs h.g h.dt (by decide)⟩
theorem Fa.go (h:Fa wo w b uf uo um ue ur ug cm ce nm fs os ms es rs gs) {w':World}{um' ue':Value}{PJ QR:List Value}{R7:List Ms}{Tq:List En} (hb:Below wo.heap.size wo w') (hk:w'.heap[b]?=some (.cells #[.string nm,uf,uo,um',ue',ur,ug] 64 (0,0))) (hg:iV (Rb wo b) (Rb wo b) w w')
  (hm:eQ (Rb wo b) w' 64 7 um' R7.length PJ) (jQ:di (Rb wo b) w' PJ R7) (he:eQ (Rb wo b) w' 68 4 ue' Tq.length QR) (mx:eC (Rb wo b) w' QR Tq):Fa wo w' b uf uo um' ue' ur ug PJ QR nm fs os R7 Tq rs gs :=
 ⟨hb,h.low,hk,h.f.goes hg,h.o.goes hg,hm,jQ,he,mx,h.r.goes hg,h.g.goes hg⟩
theorem Fa.below (h:Fa wo w b uf uo um ue ur ug cm ce nm fs os ms es rs gs) {w':World} (hb:Below w.heap.size w w'):Fa wo w' b uf uo um ue ur ug cm ce nm fs os ms es rs gs:=by
 have hg:iV (Rb wo b) (Rb wo b) w w':=fun g hg hl=>⟨hg,hb.block g hl⟩
 exact h.go (h.ez.trans (hb.mono h.ez.size)) ((hb.block _ (zA h.dt).1).trans h.dt) hg (h.m.goes hg) (cS _ _ _ _ _ _ hg h.ms) (h.e.goes hg) (cH _ _ _ _ _ _ hg h.es)
theorem Fa.aag (h:Fa wo w b uf uo um ue ur ug cm ce nm fs os ms es rs gs) {w':World}{u:Value}{mq:List Value}{l':List Ms} (hb:Below w.heap.size w w') (ho:w'.ownsRow w.heap.size 64 7 u l'.length mq) (jQ:di (Rest w.heap.size u) w' mq l'):Fa wo (w'.setCell ⟨b,3,none⟩ u) b uf uo u ue ur ug mq ce nm fs os l' es rs gs:=by
 have cc:=(zA h.dt).1
 have hs:=h.ez.size
 have h:=h.below hb
 obtain ⟨a1,a2⟩:=aJ (j:=3) h.dt u
 have hg:iV (Rb wo b) (Rb wo b) w' (w'.setCell ⟨b,3,none⟩ u):=fun g hg hl=>⟨hg,a2.block g hl (fun e=>hg.2 (zC e))⟩
 have dP:iV (fun g=>w.heap.size≤g) (Rb wo b) w' (w'.setCell ⟨b,3,none⟩ u):=fun g (hg:w.heap.size≤g) hl=>⟨⟨by omega,by omega⟩,a2.block g hl (fun e=>by have:=zC e;omega)⟩
 have eY:iV (Rest w.heap.size u) (Rb wo b) w' (w'.setCell ⟨b,3,none⟩ u):=fun g hg hl=>dP g hg.1 hl
 exact h.go (h.ez.grown a2 h.ez.size (fun k e=>by obtain rfl:=zC e;exact h.low)) a1 hg ((iD ho).goes dP) (cS _ _ _ _ _ _ eY jQ) (h.e.goes hg) (cH _ _ _ _ _ _ hg h.es)
theorem Fa.aah (h:Fa wo w b uf uo um ue ur ug cm ce nm fs os ms es rs gs) {w':World}{u:Value}{mq:List Value}{l':List En} (hb:Below w.heap.size w w') (ho:w'.ownsRow w.heap.size 68 4 u l'.length mq) (mx:eC (Rest w.heap.size u) w' mq l'):Fa wo (w'.setCell ⟨b,4,none⟩ u) b uf uo um u ur ug cm mq nm fs os ms l' rs gs:=by
 have cc:=(zA h.dt).1
 have hs:=h.ez.size
 have h:=h.below hb
 obtain ⟨a1,a2⟩:=aJ (j:=4) h.dt u
 have hg:iV (Rb wo b) (Rb wo b) w' (w'.setCell ⟨b,4,none⟩ u):=fun g hg hl=>⟨hg,a2.block g hl (fun e=>hg.2 (zC e))⟩
 have dP:iV (fun g=>w.heap.size≤g) (Rb wo b) w' (w'.setCell ⟨b,4,none⟩ u):=fun g (hg:w.heap.size≤g) hl=>⟨⟨by omega,by omega⟩,a2.block g hl (fun e=>by have:=zC e;omega)⟩
 have eY:iV (Rest w.heap.size u) (Rb wo b) w' (w'.setCell ⟨b,4,none⟩ u):=fun g hg hl=>dP g hg.1 hl
 exact h.go (h.ez.grown a2 h.ez.size (fun k e=>by obtain rfl:=zC e;exact h.low)) a1 hg (h.m.goes hg) (cS _ _ _ _ _ _ hg h.ms) ((iD ho).goes dP) (cH _ _ _ _ _ _ eY mx)
theorem Fa.out {w0 wy w2:World}{v3 v':Value}{mq:List Value}{acc:List Ms}{i:Nat} (hC:Fa wo w b uf uo um ue ur ug cm ce nm fs os ms es rs gs) (hO:wo.ownsRow w0.heap.size 64 7 v3 i mq) (hE:di (Rest w0.heap.size v3) wo mq acc) (hB:w0.heap.size≤wo.heap.size)
  (hy:Below w.heap.size w wy) (hg:wy.grownBy w2 v3.ownBlock) (yC:v'.ownBlock=v3.ownBlock∨v'.ownBlock=some wy.heap.size):di (Rest w0.heap.size v') w2 (mq++[.string nm,uf,uo,um,ue,ur,ug]) (acc++[.mk nm fs os ms es rs gs]):=by
 have g1:iV (Rest w0.heap.size v3) (Rest w0.heap.size v') wo w2:=pE (fun g h=>h) hC.ez.size (fun g _ hl=>hC.ez.block g hl) hy hg yC
 have g2:iV (Rb wo b) (Rest w0.heap.size v') w w2:=pE (wo:=w) (wr:=w) (fun g (h:Rb wo b g)=>⟨by have:=h.1;omega,fun e=>by have:=(hO.lt g e).2;have:=h.1;omega⟩) (zD _) (fun _ _ _=>rfl) hy hg yC
 exact (cS _ _ _ _ _ _ g1 hE).app (.cons (hC.f.goes g2) (hC.o.goes g2) (hC.m.goes g2) (cS _ _ _ _ _ _ g2 hC.ms) (hC.e.goes g2) (cH _ _ _ _ _ _ g2 hC.es) (hC.r.goes g2) (hC.g.goes g2) .nil)
end
end Go.Proofs.YtmlphohdcejniaaGreatDoor
namespace Go.Proofs.YtmlphohdcejniaaGreatDoor
open Go.RowKit
def hZ (n q:Nat):Nat→Nat→List Fd→Prop
 |k,op,[]=>k=n∧op=q
 |k,op,d::r=>(d.oneof=0∧hZ n q k 0 r)∨(d.oneof=(k:Int)∧op=k∧0<k∧hZ n q k k r)∨(d.oneof=((k+1:Nat):Int)∧hZ n q (k+1) (k+1) r)
theorem hZ.seq {n q:Nat}:∀(l:List Fd) {k op:Nat},hZ n q k op l→gB n k op l
 |[],_,_,h=>h.1
 |d::r,_,_,h=>by
  rcases h with ⟨h1,h⟩|⟨h1,h2,h3,h⟩|⟨h1,h⟩
  ·exact .inl ⟨h1,hZ.seq r h⟩
  ·exact .inr (.inl ⟨h1,h2,h3,hZ.seq r h⟩)
  ·exact .inr (.inr ⟨h1,hZ.seq r h⟩)
theorem hZ.app {n q n' q':Nat}{d:Fd} (hs:hZ n' q' n q [d]):∀(l:List Fd) {k op:Nat},hZ n q k op l→hZ n' q' k op (l++[d])
 |[],_,_,⟨h1,h2⟩=>by subst h1;subst h2;exact hs
 |e::r,_,_,h=>by
  rcases h with ⟨h1,h⟩|⟨h1,h2,h3,h⟩|⟨h1,h⟩
  ·exact .inl ⟨h1,hZ.app hs r h⟩
  ·exact .inr (.inl ⟨h1,h2,h3,hZ.app hs r h⟩)
  ·exact .inr (.inr ⟨h1,hZ.app hs r h⟩)
def mr (os:List ByteArray) (fs:List Fd):Prop:=∃q,hZ os.length q 0 0 fs∧(q=0∨q=os.length)∧∀d,fs[fs.length-1]?=some d→d.oneof=(q:Int)
theorem H8:mr [] []:=⟨0,⟨rfl,rfl⟩,.inl rfl,fun _ h=>by simp at h⟩
theorem vR {l:List Fd}{d e:Fd} (h:(l++[d])[(l++[d]).length-1]?=some e):e=d:=by
 rw[zK] at h
 simp at h
 exact h.symm
theorem mr.no {os:List ByteArray}{fs:List Fd}{d:Fd} (h:mr os fs) (h0:d.oneof=0):mr os (fs++[d]):=by
 obtain ⟨q,h1,_,_⟩:=h
 exact ⟨0,hZ.app (.inl ⟨h0,rfl,rfl⟩) fs h1,.inl rfl,fun e he=>by rw[vR he];exact h0⟩
theorem mr.more {os:List ByteArray}{fs:List Fd}{d:Fd}{x:ByteArray} (h:mr os fs) (h0:d.oneof=((os.length+1:Nat):Int)):mr (os++[x]) (fs++[d]):=by
 obtain ⟨q,h1,_,_⟩:=h
 have hl:(os++[x]).length=os.length+1:=by simp
 refine ⟨os.length+1,?_,.inr hl.symm,fun e he=>by rw[vR he];exact h0⟩
 rw[hl]
 exact hZ.app (.inr (.inr ⟨h0,rfl,rfl⟩)) fs h1
theorem mr.on {os:List ByteArray}{fs:List Fd}{d e:Fd} (h:mr os fs) (he:fs[fs.length-1]?=some e) (eo:e.oneof≠0) (h0:d.oneof=(os.length:Int)):mr os (fs++[d]):=by
 obtain ⟨q,h1,h2,h3⟩:=h
 have h4:=h3 e he
 have hq:q=os.length:=by
  rcases h2 with h2|h2
  ·exact absurd (by rw[h4,h2];rfl) eo
  ·exact h2
 have hp:0<os.length:=by
  rcases Nat.eq_zero_or_pos q with h5|h5
  ·exact absurd (by rw[h4,h5];rfl) eo
  ·omega
 exact ⟨os.length,hZ.app (.inr (.inl ⟨h0,hq,hp,rfl,rfl⟩)) fs h1,.inr rfl,fun e he=>by rw[vR he];exact h0⟩
structure Uh (d:Fd):Prop where
 dF:kQ d.dF
 key:d.key.size≤1048576
 ty:d.ty.size≤1048576
 name:d.name.size≤1048576
 num:kQ d.num
 oneof:kQ d.oneof
structure MSz (nm:ByteArray) (fs:List Fd) (ms:List Ms) (es:List En) (rs:List (Int×Int)) (gs:List ByteArray):Prop where
 nm:nm.size≤1048576
 fl:fs.length≤1048576
 fs:∀d ∈ fs,Uh d
 ml:ms.length≤1048576
 el:es.length≤1048576
 es:∀e ∈ es,Jk e
 rl:rs.length≤1048576
 res:∀p ∈ rs,kQ p.1∧kQ p.2
 gl:gs.length≤1048576
 gone:∀x ∈ gs,x.size≤1048576
def C0:Nat→Ms→Prop
 |0,_=>True
 |f+1,.mk nm fs _ ms es rs gs=>MSz nm fs ms es rs gs∧∀m ∈ ms,C0 f m
def DX:Nat→Ms→Nat
 |0,_=>0
 |f+1,.mk _ fs _ ms es rs gs=>100+100*fs.length+(20*rs.length+10*gs.length)+bG (DX f) ms+bG Gb es
def P1 (f:Nat):Prop:=∀(W:World) (v:Value) (l:List Ms) (cs:List Value),Rl W v l.length cs→Dm W cs l→l.length≤1048576→(∀m ∈ l,C0 f m)→∀w0,Below W.heap.size W w0→gD W →
 Calls Tryz.prog 16 #[v,.int .i64 (30-(f:Int))] w0 fun e w=>(∃u mq l',e=.returned u∧w.ownsRow w0.heap.size 64 7 u l'.length mq∧di (Rest w0.heap.size u) w mq l'∧(∀m ∈ l',EZ f m)∧bG (mw f) l'≤bG (DX f) l)∧Below w0.heap.size w0 w
structure YL (d:Fd):Prop where
 ty:∃ps,AY d ps
 no:d.oneof=0
 cd:((1≤d.dF∧d.dF≤3)∧d.key=⟨#[]⟩)∨(d.dF=4∧∃ks,lC ks∧d.key=gQ ks)
theorem YL.fd {d:Fd} (h:YL d):YK d:=by
 refine ⟨h.ty,?_⟩
 rcases h.cd with ⟨⟨h1,h2⟩,h3⟩|h4
 ·rcases (show d.dF=1∨d.dF=2∨d.dF=3 by omega) with e|e|e
  ·exact .inl ⟨e,h3⟩
  ·exact .inr ⟨h.no,.inl ⟨e,h3⟩⟩
  ·exact .inr ⟨h.no,.inr (.inl ⟨e,h3⟩)⟩
 ·exact .inr ⟨h.no,.inr (.inr h4)⟩
theorem Tn {d:Fd}{ps:List ByteArray} (h:AY d ps) (n:Int):YK { d with dF:=1,key:=⟨#[]⟩,oneof:=n }:=⟨⟨ps,h.ty,h.tp,h.nm,h.num⟩,.inl ⟨rfl,rfl⟩⟩
theorem bY {w:World}{g:Nat}{d:Fd} (h:w.heap[g]?=some (.cells d.arr 70 (0,0))):w.cell? ⟨g,0,none⟩=some (.int .i64 d.dF)∧w.cell? ⟨g,1,none⟩=some (.string d.key)∧w.cell? ⟨g,2,none⟩=some (.string d.ty)∧w.cell? ⟨g,3,none⟩=some (.string d.name)∧w.cell? ⟨g,4,none⟩=some (.int .i64 d.num)∧w.cell? ⟨g,5,none⟩=some (.int .i64 d.oneof):=Md h
end Go.Proofs.YtmlphohdcejniaaGreatDoor
namespace Go.Proofs.YtmlphohdcejniaaGreatDoor
open Go.RowKit
structure Qh (d:Fd):Prop where
 ty:∃ps,AY d ps
 no:d.oneof=0
 cd:1≤d.dF∧d.dF≤4
 ky:d.key=⟨#[]⟩
theorem Pr {x:Fd} (h:Qh x) (h4:x.dF=4) {ks:List ByteArray} (hk:lC ks):YL { x with key:=gQ ks }:=by
 obtain ⟨ps,hp⟩:=h.ty
 exact ⟨⟨ps,hp.ty,hp.tp,hp.nm,hp.num⟩,h.no,.inr ⟨h4,ks,hk,rfl⟩⟩
theorem IJ {x:Fd} (h:Qh x) (h4:¬x.dF=4):YL x:=⟨h.ty,h.no,.inl ⟨⟨h.cd.1,by have:=h.cd.2;omega⟩,h.ky⟩⟩
theorem kf {W w:World} (h:w=W):Below W.heap.size W w:=by rw[h];exact zE _ _
structure FT (wo w:World) (b p v:Nat) (uf uo ur ug:Value) (nm:ByteArray) (fs:List Fd) (os:List ByteArray) (rs:List (Int×Int)) (gs:List ByteArray) (d x:Fd):Prop where
 cp:tL wo w b uf uo ur ug nm fs os rs gs
 pl:wo.heap.size≤p
 pk:w.heap[p]?=some (.cells x.arr 70 (0,0))
 pf:uf.ownBlock≠some p
 vk:w.heap[v]?=some (.cells d.arr 70 (0,0))
 vp:v≠p
section
variable {wo w : World} {b p v : Nat} {uf uo ur ug : Value} {nm : ByteArray} {fs : List Fd} {os : List ByteArray} {rs : List (Int × Int)} {gs : List ByteArray} {d x : Fd}
theorem FT.below (h:FT wo w b p v uf uo ur ug nm fs os rs gs d x) {w':World} (hb:Below w.heap.size w w'):FT wo w' b p v uf uo ur ug nm fs os rs gs d x :=
 ⟨h.cp.below hb,h.pl,(hb.block _ (zA h.pk).1).trans h.pk,h.pf,(hb.block _ (zA h.vk).1).trans h.vk,h.vp⟩
theorem vS {w:World}{b p:Nat}{c1 c2:Array Value}{t1 t2:TypeId} (h1:w.heap[b]?=some (.cells c1 t1 (0,0))) (h2:w.heap[p]?=some (.cells c2 t2 (0,0))) (ht:t1≠t2):b≠p:=by
 rintro rfl
 rw[h1] at h2
 simp at h2
 exact ht h2.2
theorem FT.set (h:FT wo w b p v uf uo ur ug nm fs os rs gs d x) {j:Nat}{u:Value}{x':Fd} (hx:(x.arr.toList.set j u).toArray=x'.arr):FT wo (w.setCell ⟨p,j,none⟩ u) b p v uf uo ur ug nm fs os rs gs d x':=by
 obtain ⟨a1,a2⟩:=aJ (j:=j) h.pk u
 rw[hx] at a1
 have hbp:=vS h.cp.dt h.pk (by decide)
 have c:=h.cp
 exact ⟨⟨c.ez.grown a2 c.ez.size (fun k e=>by obtain rfl:=zC e;exact h.pl),c.low,(a2.block _ (zA c.dt).1 (fun e=>hbp (zC e))).trans c.dt,c.f.kept a2 (.inr h.pf),c.o.kept a2 (.inr (bF c.o h.pk (by decide))),c.r.kept a2 (.inr (bF c.r h.pk (by decide))),c.g.kept a2 (.inr (bF c.g h.pk (by decide))),c.og⟩,h.pl,a1,h.pf,(a2.block _ (zA h.vk).1 (fun e=>h.vp (zC e))).trans h.vk,h.vp⟩
theorem FT.OB (h:FT wo w b p v uf uo ur ug nm fs os rs gs d x) {w2:World}{u:Value}{o:ByteArray} (hg:w.grownBy w2 uo.ownBlock) (ho:w2.ownsRow wo.heap.size 9 1 u (os.length+1) (bS os++[.string o])) (yC:u.ownBlock=uo.ownBlock∨u.ownBlock=some w.heap.size):FT wo (w2.setCell ⟨b,2,none⟩ u) b p v uf u ur ug nm fs (os++[o]) rs gs d x:=by
 have c:=h.cp.OB hg ho yC
 have gO:=(hg.block _ (zA h.cp.dt).1 (fun e=>bF h.cp.o h.cp.dt (by decide) e.symm)).trans h.cp.dt
 obtain ⟨-,a2⟩:=aJ (j:=2) gO u
 have xq:=(hg.block _ (zA h.pk).1 (fun e=>bF h.cp.o h.pk (by decide) e.symm)).trans h.pk
 have Qu:=(hg.block _ (zA h.vk).1 (fun e=>bF h.cp.o h.vk (by decide) e.symm)).trans h.vk
 exact ⟨c,h.pl,(a2.block _ (zA xq).1 (fun e=>vS gO xq (by decide) (zC e).symm)).trans xq,h.pf,(a2.block _ (zA Qu).1 (fun e=>vS gO Qu (by decide) (zC e).symm)).trans Qu,h.vp⟩
theorem FT.new {W2:World}{x0 x1 x2 x3 x4 x5:Value} (hc:tL wo W2 b uf uo ur ug nm fs os rs gs) (hb:Below W2.heap.size W2 w) (dr:W2.heap.size≤p) (hk:w.heap[p]?=some (.cells #[x0,x1,x2,x3,x4,x5] 70 (0,0))) (hv:W2.heap[v]?=some (.cells d.arr 70 (0,0))) :
  FT wo ((((((w.setCell ⟨p,0,none⟩ (.int .i64 x.dF)).setCell ⟨p,1,none⟩ (.string x.key)).setCell ⟨p,2,none⟩ (.string x.ty)).setCell ⟨p,3,none⟩ (.string x.name)).setCell ⟨p,4,none⟩ (.int .i64 x.num)).setCell ⟨p,5,none⟩ (.int .i64 x.oneof)) b p v uf uo ur ug nm fs os rs gs d x:=by
 obtain ⟨a1,a2⟩:=aJ (j:=0) hk (.int .i64 x.dF)
 obtain ⟨b1,b2⟩:=aJ (j:=1) a1 (.string x.key)
 obtain ⟨c1,c2⟩:=aJ (j:=2) b1 (.string x.ty)
 obtain ⟨d1,d2⟩:=aJ (j:=3) c1 (.string x.name)
 obtain ⟨e1,e2⟩:=aJ (j:=4) d1 (.int .i64 x.num)
 obtain ⟨f1,f2⟩:=aJ (j:=5) e1 (.int .i64 x.oneof)
 have tX:=((((a2.trans b2).trans c2).trans d2).trans e2).trans f2
 have hB:=hb.grown tX hb.size (fun k e=>by obtain rfl:=zC e;exact dr)
 have De:=(zA hv).1
 exact ⟨hc.below hB,Nat.le_trans hc.ez.size dr,f1,fun e=>by have:=(hc.f.lt _ e).2;omega,(hB.block _ De).trans hv,by omega⟩
end
theorem tL.push {wo w:World}{b:Nat}{uf uo ur ug:Value}{nm:ByteArray}{fs:List Fd}{os:List ByteArray}{rs:List (Int×Int)}{gs:List ByteArray} (h:tL wo w b uf uo ur ug nm fs os rs gs) {w2:World}{u:Value} (d:Fd) (hg:w.grownBy w2 uf.ownBlock) (ho:w2.ownsRow wo.heap.size 70 6 u (fs.length+1) (gX fs++d.arr.toList)) :
  tL wo (w2.setCell ⟨b,1,none⟩ u) b u uo ur ug nm (fs++[d]) os rs gs∧w2.cell? ⟨b,1,none⟩=some uf∧w2.frozen? ⟨b,1,none⟩=false:=by
 have gO:=(hg.block _ (zA h.dt).1 (fun e=>bF h.f h.dt (by decide) e.symm)).trans h.dt
 exact ⟨h.fields hg ho,cell_of_row _ _ _ _ _ _ gO,by simp[World.frozen?,gO]⟩
end Go.Proofs.YtmlphohdcejniaaGreatDoor

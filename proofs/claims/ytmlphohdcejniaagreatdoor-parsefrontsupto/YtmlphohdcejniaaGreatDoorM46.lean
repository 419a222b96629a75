import Derived.Test.YtmlphohdcejniaaGreatDoorVW
namespace Go.Proofs.YtmlphohdcejniaaGreatDoor
open Go.RowKit
theorem Ui:(Tryz.prog.info? 64).map (fun i=>(i.zero,i.size,i.bytes))=some (some (.agg #[.string ByteArray.empty,.slice none 0 0,.slice none 0 0,.slice none 0 0,.slice none 0 0,.slice none 0 0,.slice none 0 0]),7,160):=by kernel_rfl
theorem Uj:(Tryz.prog.info? 70).map (fun i=>(i.zero,i.size,i.bytes))=some (some (.agg #[.int .i64 0,.string ByteArray.empty,.string ByteArray.empty,.string ByteArray.empty,.int .i64 0,.int .i64 0]),6,72):=by kernel_rfl
theorem Ug:(Tryz.prog.info? 9).map (fun i=>(i.zero,i.size,i.bytes))=some (some (.string ByteArray.empty),1,16):=by kernel_rfl
structure vj (wo w:World) (b:Nat) (uf uo ur ug:Value) (nm:ByteArray) (fs:List Fd) (os:List ByteArray) (rs:List (Int×Int)) (gs:List ByteArray):Prop where
 eL:Below wo.heap.size wo w
 low:wo.heap.size≤b
 dJ:w.heap[b]?=some (.cells #[.string nm,uf,uo,.slice none 0 0,.slice none 0 0,ur,ug] 64 (0,0))
 f:w.ownsRow wo.heap.size 70 6 uf fs.length (iF fs)
 o:w.ownsRow wo.heap.size 9 1 uo os.length (bW os)
 r:w.ownsRow wo.heap.size 111 2 ur rs.length (lj rs)
 g:w.ownsRow wo.heap.size 9 1 ug gs.length (bW gs)
 og:ug.ownBlock=none∨ug.ownBlock≠uo.ownBlock
section
variable {wo w : World} {b : Nat} {uf uo ur ug : Value} {nm : ByteArray} {fs : List Fd} {os : List ByteArray} {rs : List (Int × Int)} {gs : List ByteArray}
theorem vj.below (h:vj wo w b uf uo ur ug nm fs os rs gs) {w':World} (hb:Below w.heap.size w w'):vj wo w' b uf uo ur ug nm fs os rs gs :=
 ⟨h.eL.trans (hb.mono h.eL.size),h.low,(hb.block _ (zA h.dJ).1).trans h.dJ,cz h.f hb,cz h.o hb,cz h.r hb,cz h.g hb,h.og⟩
theorem vj.new {x0 x1 x2 x3 x4 x5 x6:Value} (hb:Below wo.heap.size wo w) (dI:wo.heap.size≤b) (hk:w.heap[b]?=some (.cells #[x0,x1,x2,x3,x4,x5,x6] 64 (0,0))) (hr:w.ownsRow wo.heap.size 111 2 ur rs.length (lj rs)) (hg:w.ownsRow wo.heap.size 9 1 ug gs.length (bW gs)) :
  vj wo (((((((w.setCell ⟨b,0,none⟩ (.string nm)).setCell ⟨b,1,none⟩ (.slice none 0 0)).setCell ⟨b,2,none⟩ (.slice none 0 0)).setCell ⟨b,3,none⟩ (.slice none 0 0)).setCell ⟨b,4,none⟩ (.slice none 0 0)).setCell ⟨b,5,none⟩ ur).setCell ⟨b,6,none⟩ ug) b (.slice none 0 0) (.slice none 0 0) ur ug nm [] [] rs gs:=by
 obtain ⟨a1,a2⟩:=aJ (j:=0) hk (.string nm)
 obtain ⟨b1,b2⟩:=aJ (j:=1) a1 (.slice none 0 0)
 obtain ⟨c1,c2⟩:=aJ (j:=2) b1 (.slice none 0 0)
 obtain ⟨d1,d2⟩:=aJ (j:=3) c1 (.slice none 0 0)
 obtain ⟨e1,e2⟩:=aJ (j:=4) d1 (.slice none 0 0)
 obtain ⟨f1,f2⟩:=aJ (j:=5) e1 ur
 obtain ⟨g1,g2⟩:=aJ (j:=6) f1 ug
 have vH:=(((((a2.trans b2).trans c2).trans d2).trans e2).trans f2).trans g2
 exact ⟨hb.grown vH hb.size (fun k e=>by obtain rfl:=zC e;exact dI),dI,g1,⟨rfl,.inl ⟨rfl,rfl⟩⟩,⟨rfl,.inl ⟨rfl,rfl⟩⟩,hr.kept vH (.inr (bH hr hk (by decide))),hg.kept vH (.inr (bH hg hk (by decide))),by cases ug.ownBlock with|none=>exact .inl rfl|some q=>exact .inr (by simp[Value.ownBlock])⟩
theorem vj.fields (h:vj wo w b uf uo ur ug nm fs os rs gs) {w2:World}{u:Value}{d:Fd} (hg:w.grownBy w2 uf.ownBlock) (ho:w2.ownsRow wo.heap.size 70 6 u (fs.length+1) (iF fs++d.arr.toList)):vj wo (w2.setCell ⟨b,1,none⟩ u) b u uo ur ug nm (fs++[d]) os rs gs:=by
 have iq:=(hg.block _ (zA h.dJ).1 (fun e=>bH h.f h.dJ (by decide) e.symm)).trans h.dJ
 obtain ⟨a1,a2⟩:=aJ (j:=1) iq u
 have k1:=h.o.kept hg (mF h.f h.o (by decide))
 have k2:=h.r.kept hg (mF h.f h.r (by decide))
 have k3:=h.g.kept hg (mF h.f h.g (by decide))
 have e1:iF (fs++[d])=iF fs++d.arr.toList:=by unfold iF;rw[List.flatMap_append];simp
 refine ⟨(h.eL.grown hg h.eL.size (fun j e=>(h.f.lt j e).1)).grown a2 (Nat.le_trans h.eL.size hg.size) (fun k e=>by obtain rfl:=zC e;exact h.low),h.low,a1,?_,k1.kept a2 (.inr (bH k1 iq (by decide))),k2.kept a2 (.inr (bH k2 iq (by decide))),k3.kept a2 (.inr (bH k3 iq (by decide))),h.og⟩
 rw[e1,zK]
 exact ho.kept a2 (.inr (bH ho iq (by decide)))
theorem vj.Qp (h:vj wo w b uf uo ur ug nm fs os rs gs) {w2:World}{u:Value}{x:ByteArray} (hg:w.grownBy w2 uo.ownBlock) (ho:w2.ownsRow wo.heap.size 9 1 u (os.length+1) (bW os++[.string x])) (Ar:u.ownBlock=uo.ownBlock∨u.ownBlock=some w.heap.size):vj wo (w2.setCell ⟨b,2,none⟩ u) b uf u ur ug nm fs (os++[x]) rs gs:=by
 have iq:=(hg.block _ (zA h.dJ).1 (fun e=>bH h.o h.dJ (by decide) e.symm)).trans h.dJ
 obtain ⟨a1,a2⟩:=aJ (j:=2) iq u
 have k1:=h.f.kept hg (mF h.o h.f (by decide))
 have k2:=h.r.kept hg (mF h.o h.r (by decide))
 have k3:=h.g.kept hg h.og
 have e1:bW (os++[x])=bW os++[.string x]:=by unfold bW;simp
 refine ⟨(h.eL.grown hg h.eL.size (fun j e=>(h.o.lt j e).1)).grown a2 (Nat.le_trans h.eL.size hg.size) (fun k e=>by obtain rfl:=zC e;exact h.low),h.low,a1,k1.kept a2 (.inr (bH k1 iq (by decide))),?_,k2.kept a2 (.inr (bH k2 iq (by decide))),k3.kept a2 (.inr (bH k3 iq (by decide))),?_⟩
 ·rw[e1,zK]
  exact ho.kept a2 (.inr (bH ho iq (by decide)))
 ·cases hu:ug.ownBlock with
  |none=>exact .inl rfl
  |some q =>
   refine .inr (fun e=>?_)
   rcases Ar with e2|e2
   ·rcases h.og with e3|e3
    ·rw[hu] at e3;cases e3
    ·exact e3 (by rw[hu,e,e2])
   ·have:=(h.g.lt q hu).2
    rw[e2] at e
    obtain rfl:=zC e
    omega
end
def Rb (wo:World) (b g:Nat):Prop:=wo.heap.size≤g∧g≠b
structure GJ (wo w:World) (b:Nat) (uf uo um ue ur ug:Value) (cm ce:List Value) (nm:ByteArray) (fs:List Fd) (os:List ByteArray) (ms:List Ms) (es:List En) (rs:List (Int×Int)) (gs:List ByteArray):Prop where
 eL:Below wo.heap.size wo w
 low:wo.heap.size≤b
 dJ:w.heap[b]?=some (.cells #[.string nm,uf,uo,um,ue,ur,ug] 64 (0,0))
 f:fm (Rb wo b) w 70 6 uf fs.length (iF fs)
 o:fm (Rb wo b) w 9 1 uo os.length (bW os)
 m:fm (Rb wo b) w 64 7 um ms.length cm
 ms:cU (Rb wo b) w cm ms
 e:fm (Rb wo b) w 68 4 ue es.length ce
 es:eS (Rb wo b) w ce es
 r:fm (Rb wo b) w 111 2 ur rs.length (lj rs)
 g:fm (Rb wo b) w 9 1 ug gs.length (bW gs)
section
variable {wo w : World} {b : Nat} {uf uo um ue ur ug : Value} {cm ce : List Value} {nm : ByteArray} {fs : List Fd} {os : List ByteArray} {ms : List Ms} {es : List En} {rs : List (Int × Int)} {gs : List ByteArray}
theorem GY {e size n:Nat}{v:Value}{xs:List Value}{c:Array Value} (h:w.ownsRow wo.heap.size e size v n xs) (hb:w.heap[b]?=some (.cells c 64 (0,0))) (ht:e≠64):fm (Rb wo b) w e size v n xs :=
 ⟨eJ h (Nat.zero_le _),fun _ q=>⟨(h.lt _ q).1,fun k=>bH h hb ht (k ▸ q)⟩⟩
theorem vj.done (h:vj wo w b uf uo ur ug nm fs os rs gs):GJ wo w b uf uo (.slice none 0 0) (.slice none 0 0) ur ug [] [] nm fs os [] [] rs gs :=
 ⟨h.eL,h.low,h.dJ,GY h.f h.dJ (by decide),GY h.o h.dJ (by decide),⟨⟨rfl,.inl ⟨rfl,rfl⟩⟩,fun _ q=>by cases q⟩,.nil,⟨⟨rfl,.inl ⟨rfl,rfl⟩⟩,fun _ q=>by cases q⟩,.nil,GY h.r h.dJ (by decide),GY h.g h.dJ (by decide)⟩
theorem GJ.go (h:GJ wo w b uf uo um ue ur ug cm ce nm fs os ms es rs gs) {w':World}{um' ue':Value}{PD RP:List Value}{T2:List Ms}{Vo:List En} (hb:Below wo.heap.size wo w') (hk:w'.heap[b]?=some (.cells #[.string nm,uf,uo,um',ue',ur,ug] 64 (0,0))) (hg:jx (Rb wo b) (Rb wo b) w w')
  (hm:fm (Rb wo b) w' 64 7 um' T2.length PD) (jT:cU (Rb wo b) w' PD T2) (he:fm (Rb wo b) w' 68 4 ue' Vo.length RP) (mP:eS (Rb wo b) w' RP Vo):GJ wo w' b uf uo um' ue' ur ug PD RP nm fs os T2 Vo rs gs :=
 ⟨hb,h.low,hk,h.f.goes hg,h.o.goes hg,hm,jT,he,mP,h.r.goes hg,h.g.goes hg⟩
theorem GJ.below (h:GJ wo w b uf uo um ue ur ug cm ce nm fs os ms es rs gs) {w':World} (hb:Below w.heap.size w w'):GJ wo w' b uf uo um ue ur ug cm ce nm fs os ms es rs gs:=by
 have hg:jx (Rb wo b) (Rb wo b) w w':=fun g hg hl=>⟨hg,hb.block g hl⟩
 exact h.go (h.eL.trans (hb.mono h.eL.size)) ((hb.block _ (zA h.dJ).1).trans h.dJ) hg (h.m.goes hg) (df _ _ _ _ _ _ hg h.ms) (h.e.goes hg) (cT _ _ _ _ _ _ hg h.es)
theorem GJ.aaC (h:GJ wo w b uf uo um ue ur ug cm ce nm fs os ms es rs gs) {w':World}{u:Value}{kO:List Value}{l':List Ms} (hb:Below w.heap.size w w') (ho:w'.ownsRow w.heap.size 64 7 u l'.length kO) (jT:cU (Rest w.heap.size u) w' kO l'):GJ wo (w'.setCell ⟨b,3,none⟩ u) b uf uo u ue ur ug kO ce nm fs os l' es rs gs:=by
 have cw:=(zA h.dJ).1
 have hs:=h.eL.size
 have h:=h.below hb
 obtain ⟨a1,a2⟩:=aJ (j:=3) h.dJ u
 have hg:jx (Rb wo b) (Rb wo b) w' (w'.setCell ⟨b,3,none⟩ u):=fun g hg hl=>⟨hg,a2.block g hl (fun e=>hg.2 (zC e))⟩
 have ej:jx (fun g=>w.heap.size≤g) (Rb wo b) w' (w'.setCell ⟨b,3,none⟩ u):=fun g (hg:w.heap.size≤g) hl=>⟨⟨by omega,by omega⟩,a2.block g hl (fun e=>by have:=zC e;omega)⟩
 have fB:jx (Rest w.heap.size u) (Rb wo b) w' (w'.setCell ⟨b,3,none⟩ u):=fun g hg hl=>ej g hg.1 hl
 exact h.go (h.eL.grown a2 h.eL.size (fun k e=>by obtain rfl:=zC e;exact h.low)) a1 hg ((jf ho).goes ej) (df _ _ _ _ _ _ fB jT) (h.e.goes hg) (cT _ _ _ _ _ _ hg h.es)
theorem GJ.aaD (h:GJ wo w b uf uo um ue ur ug cm ce nm fs os ms es rs gs) {w':World}{u:Value}{kO:List Value}{l':List En} (hb:Below w.heap.size w w') (ho:w'.ownsRow w.heap.size 68 4 u l'.length kO) (mP:eS (Rest w.heap.size u) w' kO l'):GJ wo (w'.setCell ⟨b,4,none⟩ u) b uf uo um u ur ug cm kO nm fs os ms l' rs gs:=by
 have cw:=(zA h.dJ).1
 have hs:=h.eL.size
 have h:=h.below hb
 obtain ⟨a1,a2⟩:=aJ (j:=4) h.dJ u
 have hg:jx (Rb wo b) (Rb wo b) w' (w'.setCell ⟨b,4,none⟩ u):=fun g hg hl=>⟨hg,a2.block g hl (fun e=>hg.2 (zC e))⟩
 have ej:jx (fun g=>w.heap.size≤g) (Rb wo b) w' (w'.setCell ⟨b,4,none⟩ u):=fun g (hg:w.heap.size≤g) hl=>⟨⟨by omega,by omega⟩,a2.block g hl (fun e=>by have:=zC e;omega)⟩
 have fB:jx (Rest w.heap.size u) (Rb wo b) w' (w'.setCell ⟨b,4,none⟩ u):=fun g hg hl=>ej g hg.1 hl
 exact h.go (h.eL.grown a2 h.eL.size (fun k e=>by obtain rfl:=zC e;exact h.low)) a1 hg (h.m.goes hg) (df _ _ _ _ _ _ hg h.ms) ((jf ho).goes ej) (cT _ _ _ _ _ _ fB mP)
theorem GJ.out {w0 wy w2:World}{v3 v':Value}{kO:List Value}{acc:List Ms}{i:Nat} (hC:GJ wo w b uf uo um ue ur ug cm ce nm fs os ms es rs gs) (hO:wo.ownsRow w0.heap.size 64 7 v3 i kO) (hE:cU (Rest w0.heap.size v3) wo kO acc) (hB:w0.heap.size≤wo.heap.size)
  (hy:Below w.heap.size w wy) (hg:wy.grownBy w2 v3.ownBlock) (Ar:v'.ownBlock=v3.ownBlock∨v'.ownBlock=some wy.heap.size):cU (Rest w0.heap.size v') w2 (kO++[.string nm,uf,uo,um,ue,ur,ug]) (acc++[.mk nm fs os ms es rs gs]):=by
 have g1:jx (Rest w0.heap.size v3) (Rest w0.heap.size v') wo w2:=qC (fun g h=>h) hC.eL.size (fun g _ hl=>hC.eL.block g hl) hy hg Ar
 have g2:jx (Rb wo b) (Rest w0.heap.size v') w w2:=qC (wo:=w) (wr:=w) (fun g (h:Rb wo b g)=>⟨by have:=h.1;omega,fun e=>by have:=(hO.lt g e).2;have:=h.1;omega⟩) (zD _) (fun _ _ _=>rfl) hy hg Ar
 exact (df _ _ _ _ _ _ g1 hE).app (.cons (hC.f.goes g2) (hC.o.goes g2) (hC.m.goes g2) (df _ _ _ _ _ _ g2 hC.ms) (hC.e.goes g2) (cT _ _ _ _ _ _ g2 hC.es) (hC.r.goes g2) (hC.g.goes g2) .nil)
end
end Go.Proofs.YtmlphohdcejniaaGreatDoor
namespace Go.Proofs.YtmlphohdcejniaaGreatDoor
open Go.RowKit
def iJ (n q:Nat):Nat→Nat→List Fd→Prop
 |k,op,[]=>k=n∧op=q
 |k,op,d::r=>(d.oneof=0∧iJ n q k 0 r)∨(d.oneof=(k:Int)∧op=k∧0<k∧iJ n q k k r)∨(d.oneof=((k+1:Nat):Int)∧iJ n q (k+1) (k+1) r)
theorem iJ.seq {n q:Nat}:∀(l:List Fd) {k op:Nat},iJ n q k op l→gW n k op l
 |[],_,_,h=>h.1
 |d::r,_,_,h=>by
  rcases h with ⟨h1,h⟩|⟨h1,h2,h3,h⟩|⟨h1,h⟩
  ·exact .inl ⟨h1,iJ.seq r h⟩
  ·exact .inr (.inl ⟨h1,h2,h3,iJ.seq r h⟩)
  ·exact .inr (.inr ⟨h1,iJ.seq r h⟩)
theorem iJ.app {n q n' q':Nat}{d:Fd} (hs:iJ n' q' n q [d]):∀(l:List Fd) {k op:Nat},iJ n q k op l→iJ n' q' k op (l++[d])
 |[],_,_,⟨h1,h2⟩=>by subst h1;subst h2;exact hs
 |e::r,_,_,h=>by
  rcases h with ⟨h1,h⟩|⟨h1,h2,h3,h⟩|⟨h1,h⟩
  ·exact .inl ⟨h1,iJ.app hs r h⟩
  ·exact .inr (.inl ⟨h1,h2,h3,iJ.app hs r h⟩)
  ·exact .inr (.inr ⟨h1,iJ.app hs r h⟩)
def nd (os:List ByteArray) (fs:List Fd):Prop:=∃q,iJ os.length q 0 0 fs∧(q=0∨q=os.length)∧∀d,fs[fs.length-1]?=some d→d.oneof=(q:Int)
theorem JD:nd [] []:=⟨0,⟨rfl,rfl⟩,.inl rfl,fun _ h=>by simp at h⟩
theorem xB {l:List Fd}{d e:Fd} (h:(l++[d])[(l++[d]).length-1]?=some e):e=d:=by
 rw[zK] at h
 simp at h
 exact h.symm
theorem nd.no {os:List ByteArray}{fs:List Fd}{d:Fd} (h:nd os fs) (h0:d.oneof=0):nd os (fs++[d]):=by
 obtain ⟨q,h1,_,_⟩:=h
 exact ⟨0,iJ.app (.inl ⟨h0,rfl,rfl⟩) fs h1,.inl rfl,fun e he=>by rw[xB he];exact h0⟩
theorem nd.more {os:List ByteArray}{fs:List Fd}{d:Fd}{x:ByteArray} (h:nd os fs) (h0:d.oneof=((os.length+1:Nat):Int)):nd (os++[x]) (fs++[d]):=by
 obtain ⟨q,h1,_,_⟩:=h
 have hl:(os++[x]).length=os.length+1:=by simp
 refine ⟨os.length+1,?_,.inr hl.symm,fun e he=>by rw[xB he];exact h0⟩
 rw[hl]
 exact iJ.app (.inr (.inr ⟨h0,rfl,rfl⟩)) fs h1
theorem nd.on {os:List ByteArray}{fs:List Fd}{d e:Fd} (h:nd os fs) (he:fs[fs.length-1]?=some e) (eo:e.oneof≠0) (h0:d.oneof=(os.length:Int)):nd os (fs++[d]):=by
 obtain ⟨q,h1,h2,h3⟩:=h
 have h4:=h3 e he
 have hq:q=os.length:=by
  rcases h2 with h2|h2
  ·exact absurd (by rw[h4,h2];rfl) eo
  ·exact h2
 have hp:0<os.length:=by
  rcases Nat.eq_zero_or_pos q with h5|h5
  ·exact absurd (by rw[h4,h5];rfl) eo
  ·omega
 exact ⟨os.length,iJ.app (.inr (.inl ⟨h0,hq,hp,rfl,rfl⟩)) fs h1,.inr rfl,fun e he=>by rw[xB he];exact h0⟩
structure Wk (d:Fd):Prop where
 dQ:kX d.dQ
 key:d.key.size≤1048576
 ty:d.ty.size≤1048576
 name:d.name.size≤1048576
 num:kX d.num
 oneof:kX d.oneof
structure MSz (nm:ByteArray) (fs:List Fd) (ms:List Ms) (es:List En) (rs:List (Int×Int)) (gs:List ByteArray):Prop where
 nm:nm.size≤1048576
 fl:fs.length≤1048576
 fs:∀d ∈ fs,Wk d
 ml:ms.length≤1048576
 el:es.length≤1048576
 es:∀e ∈ es,KH e
 rl:rs.length≤1048576
 res:∀p ∈ rs,kX p.1∧kX p.2
 gl:gs.length≤1048576
 gone:∀x ∈ gs,x.size≤1048576
def EB:Nat→Ms→Prop
 |0,_=>True
 |f+1,.mk nm fs _ ms es rs gs=>MSz nm fs ms es rs gs∧∀m ∈ ms,EB f m
def FA:Nat→Ms→Nat
 |0,_=>0
 |f+1,.mk _ fs _ ms es rs gs=>100+100*fs.length+(20*rs.length+10*gs.length)+bI (FA f) ms+bI IA es
def R8 (f:Nat):Prop:=∀(W:World) (v:Value) (l:List Ms) (cs:List Value),Rl W v l.length cs→EV W cs l→l.length≤1048576→(∀m ∈ l,EB f m)→∀w0,Below W.heap.size W w0→gY W →
 Calls Tryz.prog 16 #[v,.int .i64 (30-(f:Int))] w0 fun e w=>(∃u kO l',e=.returned u∧w.ownsRow w0.heap.size 64 7 u l'.length kO∧cU (Rest w0.heap.size u) w kO l'∧(∀m ∈ l',Gw f m)∧bI (ni f) l'≤bI (FA f) l)∧Below w0.heap.size w0 w
structure Fd1 (d:Fd):Prop where
 ty:∃ps,Cu d ps
 no:d.oneof=0
 cd:((1≤d.dQ∧d.dQ≤3)∧d.key=⟨#[]⟩)∨(d.dQ=4∧∃ks,ik ks∧d.key=iu ks)
theorem Fd1.fd {d:Fd} (h:Fd1 d):FdR d:=by
 refine ⟨h.ty,?_⟩
 rcases h.cd with ⟨⟨h1,h2⟩,h3⟩|h4
 ·rcases (show d.dQ=1∨d.dQ=2∨d.dQ=3 by omega) with e|e|e
  ·exact .inl ⟨e,h3⟩
  ·exact .inr ⟨h.no,.inl ⟨e,h3⟩⟩
  ·exact .inr ⟨h.no,.inr (.inl ⟨e,h3⟩)⟩
 ·exact .inr ⟨h.no,.inr (.inr h4)⟩
theorem Vl {d:Fd}{ps:List ByteArray} (h:Cu d ps) (n:Int):FdR { d with dQ:=1,key:=⟨#[]⟩,oneof:=n }:=⟨⟨ps,h.ty,h.tp,h.nm,h.num⟩,.inl ⟨rfl,rfl⟩⟩
theorem cc {w:World}{g:Nat}{d:Fd} (h:w.heap[g]?=some (.cells d.arr 70 (0,0))):w.cell? ⟨g,0,none⟩=some (.int .i64 d.dQ)∧w.cell? ⟨g,1,none⟩=some (.string d.key)∧w.cell? ⟨g,2,none⟩=some (.string d.ty)∧w.cell? ⟨g,3,none⟩=some (.string d.name)∧w.cell? ⟨g,4,none⟩=some (.int .i64 d.num)∧w.cell? ⟨g,5,none⟩=some (.int .i64 d.oneof):=N3 h
end Go.Proofs.YtmlphohdcejniaaGreatDoor
namespace Go.Proofs.YtmlphohdcejniaaGreatDoor
open Go.RowKit
structure Sp (d:Fd):Prop where
 ty:∃ps,Cu d ps
 no:d.oneof=0
 cd:1≤d.dQ∧d.dQ≤4
 ky:d.key=⟨#[]⟩
theorem Rt {x:Fd} (h:Sp x) (h4:x.dQ=4) {ks:List ByteArray} (hk:ik ks):Fd1 { x with key:=iu ks }:=by
 obtain ⟨ps,hp⟩:=h.ty
 exact ⟨⟨ps,hp.ty,hp.tp,hp.nm,hp.num⟩,h.no,.inr ⟨h4,ks,hk,rfl⟩⟩
theorem Ka {x:Fd} (h:Sp x) (h4:¬x.dQ=4):Fd1 x:=⟨h.ty,h.no,.inl ⟨⟨h.cd.1,by have:=h.cd.2;omega⟩,h.ky⟩⟩
theorem kR {W w:World} (h:w=W):Below W.heap.size W w:=by rw[h];exact zE _ _
structure FT (wo w:World) (b p v:Nat) (uf uo ur ug:Value) (nm:ByteArray) (fs:List Fd) (os:List ByteArray) (rs:List (Int×Int)) (gs:List ByteArray) (d x:Fd):Prop where
 cp:vj wo w b uf uo ur ug nm fs os rs gs
 pl:wo.heap.size≤p
 pk:w.heap[p]?=some (.cells x.arr 70 (0,0))
 pf:uf.ownBlock≠some p
 vk:w.heap[v]?=some (.cells d.arr 70 (0,0))
 vp:v≠p
section
variable {wo w : World} {b p v : Nat} {uf uo ur ug : Value} {nm : ByteArray} {fs : List Fd} {os : List ByteArray} {rs : List (Int × Int)} {gs : List ByteArray} {d x : Fd}
theorem FT.below (h:FT wo w b p v uf uo ur ug nm fs os rs gs d x) {w':World} (hb:Below w.heap.size w w'):FT wo w' b p v uf uo ur ug nm fs os rs gs d x :=
 ⟨h.cp.below hb,h.pl,(hb.block _ (zA h.pk).1).trans h.pk,h.pf,(hb.block _ (zA h.vk).1).trans h.vk,h.vp⟩
theorem xC {w:World}{b p:Nat}{c1 c2:Array Value}{t1 t2:TypeId} (h1:w.heap[b]?=some (.cells c1 t1 (0,0))) (h2:w.heap[p]?=some (.cells c2 t2 (0,0))) (ht:t1≠t2):b≠p:=by
 rintro rfl
 rw[h1] at h2
 simp at h2
 exact ht h2.2
theorem FT.set (h:FT wo w b p v uf uo ur ug nm fs os rs gs d x) {j:Nat}{u:Value}{x':Fd} (hx:(x.arr.toList.set j u).toArray=x'.arr):FT wo (w.setCell ⟨p,j,none⟩ u) b p v uf uo ur ug nm fs os rs gs d x':=by
 obtain ⟨a1,a2⟩:=aJ (j:=j) h.pk u
 rw[hx] at a1
 have hbp:=xC h.cp.dJ h.pk (by decide)
 have c:=h.cp
 exact ⟨⟨c.eL.grown a2 c.eL.size (fun k e=>by obtain rfl:=zC e;exact h.pl),c.low,(a2.block _ (zA c.dJ).1 (fun e=>hbp (zC e))).trans c.dJ,c.f.kept a2 (.inr h.pf),c.o.kept a2 (.inr (bH c.o h.pk (by decide))),c.r.kept a2 (.inr (bH c.r h.pk (by decide))),c.g.kept a2 (.inr (bH c.g h.pk (by decide))),c.og⟩,h.pl,a1,h.pf,(a2.block _ (zA h.vk).1 (fun e=>h.vp (zC e))).trans h.vk,h.vp⟩
theorem FT.Qp (h:FT wo w b p v uf uo ur ug nm fs os rs gs d x) {w2:World}{u:Value}{o:ByteArray} (hg:w.grownBy w2 uo.ownBlock) (ho:w2.ownsRow wo.heap.size 9 1 u (os.length+1) (bW os++[.string o])) (Ar:u.ownBlock=uo.ownBlock∨u.ownBlock=some w.heap.size):FT wo (w2.setCell ⟨b,2,none⟩ u) b p v uf u ur ug nm fs (os++[o]) rs gs d x:=by
 have c:=h.cp.Qp hg ho Ar
 have iq:=(hg.block _ (zA h.cp.dJ).1 (fun e=>bH h.cp.o h.cp.dJ (by decide) e.symm)).trans h.cp.dJ
 obtain ⟨-,a2⟩:=aJ (j:=2) iq u
 have yK:=(hg.block _ (zA h.pk).1 (fun e=>bH h.cp.o h.pk (by decide) e.symm)).trans h.pk
 have SG:=(hg.block _ (zA h.vk).1 (fun e=>bH h.cp.o h.vk (by decide) e.symm)).trans h.vk
 exact ⟨c,h.pl,(a2.block _ (zA yK).1 (fun e=>xC iq yK (by decide) (zC e).symm)).trans yK,h.pf,(a2.block _ (zA SG).1 (fun e=>xC iq SG (by decide) (zC e).symm)).trans SG,h.vp⟩
theorem FT.new {W2:World}{x0 x1 x2 x3 x4 x5:Value} (hc:vj wo W2 b uf uo ur ug nm fs os rs gs) (hb:Below W2.heap.size W2 w) (dI:W2.heap.size≤p) (hk:w.heap[p]?=some (.cells #[x0,x1,x2,x3,x4,x5] 70 (0,0))) (hv:W2.heap[v]?=some (.cells d.arr 70 (0,0))) :
  FT wo ((((((w.setCell ⟨p,0,none⟩ (.int .i64 x.dQ)).setCell ⟨p,1,none⟩ (.string x.key)).setCell ⟨p,2,none⟩ (.string x.ty)).setCell ⟨p,3,none⟩ (.string x.name)).setCell ⟨p,4,none⟩ (.int .i64 x.num)).setCell ⟨p,5,none⟩ (.int .i64 x.oneof)) b p v uf uo ur ug nm fs os rs gs d x:=by
 obtain ⟨a1,a2⟩:=aJ (j:=0) hk (.int .i64 x.dQ)
 obtain ⟨b1,b2⟩:=aJ (j:=1) a1 (.string x.key)
 obtain ⟨c1,c2⟩:=aJ (j:=2) b1 (.string x.ty)
 obtain ⟨d1,d2⟩:=aJ (j:=3) c1 (.string x.name)
 obtain ⟨e1,e2⟩:=aJ (j:=4) d1 (.int .i64 x.num)
 obtain ⟨f1,f2⟩:=aJ (j:=5) e1 (.int .i64 x.oneof)
 have vH:=((((a2.trans b2).trans c2).trans d2).trans e2).trans f2
 have hB:=hb.grown vH hb.size (fun k e=>by obtain rfl:=zC e;exact dI)
 have EP:=(zA hv).1
 exact ⟨hc.below hB,Nat.le_trans hc.eL.size dI,f1,fun e=>by have:=(hc.f.lt _ e).2;omega,(hB.block _ EP).trans hv,by omega⟩
end
theorem vj.push {wo w:World}{b:Nat}{uf uo ur ug:Value}{nm:ByteArray}{fs:List Fd}{os:List ByteArray}{rs:List (Int×Int)}{gs:List ByteArray} (h:vj wo w b uf uo ur ug nm fs os rs gs) {w2:World}{u:Value} (d:Fd) (hg:w.grownBy w2 uf.ownBlock) (ho:w2.ownsRow wo.heap.size 70 6 u (fs.length+1) (iF fs++d.arr.toList)) :
  vj wo (w2.setCell ⟨b,1,none⟩ u) b u uo ur ug nm (fs++[d]) os rs gs∧w2.cell? ⟨b,1,none⟩=some uf∧w2.frozen? ⟨b,1,none⟩=false:=by
 have iq:=(hg.block _ (zA h.dJ).1 (fun e=>bH h.f h.dJ (by decide) e.symm)).trans h.dJ
 exact ⟨h.fields hg ho,cell_of_row _ _ _ _ _ _ iq,by simp[World.frozen?,iq]⟩
end Go.Proofs.YtmlphohdcejniaaGreatDoor

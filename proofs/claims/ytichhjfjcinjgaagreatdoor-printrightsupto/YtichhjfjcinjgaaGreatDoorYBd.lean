import Derived.Test.YtichhjfjcinjgaaGreatDoorYBc
namespace Go.Proofs.YtichhjfjcinjgaaGreatDoor
open Go.RowKit
attribute [local go_sem ↓] Go.wp_at_zero Go.wp_at_succ
theorem Nl:(Tryz.prog.info? 46).map (fun i=>(i.zero,i.size,i.bytes))=some (some (.agg #[.string ByteArray.empty,.slice none 0 0,.slice none 0 0,.slice none 0 0,.slice none 0 0,.slice none 0 0,.slice none 0 0]),7,160):=by kernel_rfl
theorem Nn:(Tryz.prog.info? 42).map (fun i=>(i.zero,i.size,i.bytes))=some (some (.agg #[.int .i64 0,.string ByteArray.empty,.string ByteArray.empty,.string ByteArray.empty,.int .i64 0,.int .i64 0]),6,72):=by kernel_rfl
theorem J2 {l:List Fd}{i:Nat}{x:Fd} (h:l[i]?=some x):fw (l.take (i+1))=fw (l.take i)++x.cs:=by
 rw[bL h]
 unfold fw
 rw[List.flatMap_append]
 simp
def lM:Nat→Ms→Ms
 |0,.mk nm fs os _ es rs gs=>.mk nm fs os [] es rs gs
 |f+1,.mk nm fs os ms es rs gs=>.mk nm fs os (ms.map (lM f)) es rs gs
def gK:Nat→List Ms→List Ms
 |0,_=>[]
 |f+1,l=>l.map (lM f)
theorem yd:∀(f:Nat) (nm:ByteArray) (fs:List Fd) (os:List ByteArray) (ms:List Ms) (es:List En) (rs:List (Int×Int)) (gs:List ByteArray),lM f (.mk nm fs os ms es rs gs)=.mk nm fs os (gK f ms) es rs gs
 |0,_,_,_,_,_,_,_=>rfl
 |_+1,_,_,_,_,_,_,_=>rfl
theorem oV {f:Nat}{l:List Ms}:(gK f l).length≤l.length:=by
 cases f with
 |zero=>exact Nat.zero_le _
 |succ f=>simp[gK]
def P4 (fs:List Fd) (os:List ByteArray) (ms:List Ms) (es:List En) (rs:List (Int×Int)) (gs:List ByteArray):Prop :=
 fs.length*72≤140737488355328∧os.length*16≤140737488355328∧ms.length*160≤140737488355328∧es.length*88≤140737488355328∧(∀e ∈ es,JG e)∧rs.length*16≤140737488355328∧gs.length*16≤140737488355328
def DS:Nat→Ms→Prop
 |0,.mk _ fs os ms es rs gs=>P4 fs os ms es rs gs
 |f+1,.mk _ fs os ms es rs gs=>P4 fs os ms es rs gs∧∀m ∈ ms,DS f m
theorem DS.s {f:Nat}{nm:ByteArray}{fs:List Fd}{os:List ByteArray}{ms:List Ms}{es:List En}{rs:List (Int×Int)}{gs:List ByteArray} (h:DS f (.mk nm fs os ms es rs gs)):P4 fs os ms es rs gs:=by
 cases f with
 |zero=>exact h
 |succ f=>exact h.1
def Lx (f:Nat):Prop:=∀(W:World) (v:Value) (l:List Ms) (cs:List Value),Rl W v l.length cs→tf W cs l→l.length*160≤140737488355328→(∀m ∈ l,DS f m)→∀w0,Below W.heap.size W w0 →
 Calls Tryz.prog 17 #[v,.int .i64 (200-(f:Int))] w0 fun e w=>∃u iN,e=.returned u∧w.ownsRow w0.heap.size 46 7 u (gK f l).length iN∧pf (Rest w0.heap.size u) w iN (gK f l)∧Below w0.heap.size w0 w
def R0 (wo:World) (g:Nat):Prop:=wo.heap.size≤g
def R1 (wo:World) (b g:Nat):Prop:=wo.heap.size≤g∧g≠b
def Rx (wo:World) (b:Nat) (u:Value) (g:Nat):Prop:=wo.heap.size≤g∧g≠b∧u.ownBlock≠some g
theorem QH {wo w:World}{B:Nat} (h:wo.heap.size≤B):gM (fun g=>B≤g) (R0 wo) w w:=fun _ hg _=>⟨rfl,Nat.le_trans h hg⟩
theorem vu {wo w:World}{B b:Nat} (h:wo.heap.size≤B) (hb:b<B):gM (fun g=>B≤g) (R1 wo b) w w:=fun g (hg:B≤g) _=>⟨rfl,Nat.le_trans h hg,by omega⟩
theorem Yx {wo w:World}{B:Nat}{u:Value} (h:wo.heap.size≤B):gM (Rest B u) (R0 wo) w w:=fun _ hg _=>⟨rfl,Nat.le_trans h hg.1⟩
theorem QI {wo w:World}{B b:Nat}{u:Value} (h:wo.heap.size≤B) (hb:b<B):gM (Rest B u) (R1 wo b) w w:=fun g hg _=>⟨rfl,Nat.le_trans h hg.1,by have:=hg.1;omega⟩
theorem uU {wo w w2:World} (hb:Below w.heap.size w w2):gM (R0 wo) (R1 wo w.heap.size) w w2:=fun g hg hl=>⟨hb.block g hl,hg,by omega⟩
structure po (wo w:World) (b:Nat) (uf uo um ue ur ug:Value) (cm ce:List Value) (nm:ByteArray) (os:List ByteArray) (ms:List Ms) (es:List En) (rs:List (Int×Int)) (gs:List ByteArray):Prop where
 bW:Below wo.heap.size wo w
 low:wo.heap.size≤b
 dq:w.heap[b]?=some (.cells #[.string nm,uf,uo,um,ue,ur,ug] 46 (0,0))
 o:gO (Rx wo b uf) w 9 1 uo os.length (bZ os)
 m:gO (Rx wo b uf) w 46 7 um ms.length cm
 ms:pf (Rx wo b uf) w cm ms
 e:gO (Rx wo b uf) w 67 4 ue es.length ce
 es:pn (Rx wo b uf) w ce es
 r:gO (Rx wo b uf) w 111 2 ur rs.length (kQ rs)
 g:gO (Rx wo b uf) w 9 1 ug gs.length (bZ gs)
section
variable {wo w : World} {b : Nat} {uf uo um ue ur ug : Value} {cm ce : List Value} {nm : ByteArray} {os : List ByteArray} {ms : List Ms} {es : List En} {rs : List (Int × Int)} {gs : List ByteArray}
theorem po.go (h:po wo w b uf uo um ue ur ug cm ce nm os ms es rs gs) {w':World}{u':Value} (hb:Below wo.heap.size wo w') (hk:w'.heap[b]?=some (.cells #[.string nm,u',uo,um,ue,ur,ug] 46 (0,0))) (hs:gM (Rx wo b uf) (Rx wo b u') w w'):po wo w' b u' uo um ue ur ug cm ce nm os ms es rs gs :=
 ⟨hb,h.low,hk,h.o.mono hs,h.m.mono hs,h.ms.mono hs,h.e.mono hs,h.es.mono hs,h.r.mono hs,h.g.mono hs⟩
theorem po.below (h:po wo w b uf uo um ue ur ug cm ce nm os ms es rs gs) {w':World} (hb:Below w.heap.size w w'):po wo w' b uf uo um ue ur ug cm ce nm os ms es rs gs :=
 h.go (h.bW.trans (hb.mono h.bW.size)) ((hb.block _ (zA h.dq).1).trans h.dq) (aD hb)
theorem po.B0 (h:po wo w b uf uo um ue ur ug cm ce nm os ms es rs gs) {w':World} (hg:w.grownBy w' uf.ownBlock) (h1:∀j,uf.ownBlock=some j→wo.heap.size≤j) (h2:uf.ownBlock≠some b):po wo w' b uf uo um ue ur ug cm ce nm os ms es rs gs :=
 h.go (h.bW.grown hg h.bW.size h1) ((hg.block _ (zA h.dq).1 (fun e=>h2 e.symm)).trans h.dq) (j7 hg (fun _ hg=>hg.2.2))
theorem po.val (h:po wo w b uf uo um ue ur ug cm ce nm os ms es rs gs) (u:Value) (hu:∀g,g<w.heap.size→Rx wo b uf g→u.ownBlock≠some g):po wo (w.setCell ⟨b,1,none⟩ u) b u uo um ue ur ug cm ce nm os ms es rs gs∧w.grownBy (w.setCell ⟨b,1,none⟩ u) (some b):=by
 obtain ⟨a1,a2⟩:=bh (j:=1) h.dq u
 exact ⟨h.go (h.bW.grown a2 h.bW.size (fun k e=>by obtain rfl:=zC e;exact h.low)) a1 (fun g hg hl=>⟨a2.block g hl (fun e=>hg.2.1 (zC e)),hg.1,hg.2.1,hu g hl hg⟩),a2⟩
theorem po.grow {wy w2:World}{u':Value} (h:po wo wy b uf uo um ue ur ug cm ce nm os ms es rs gs) (hg:wy.grownBy w2 uf.ownBlock) (h2:po wo w2 b uf uo um ue ur ug cm ce nm os ms es rs gs) (ef:u'.ownBlock=uf.ownBlock∨u'.ownBlock=some wy.heap.size):po wo (w2.setCell ⟨b,1,none⟩ u') b u' uo um ue ur ug cm ce nm os ms es rs gs:=by
 obtain ⟨a1,a2⟩:=bh (j:=1) h2.dq u'
 refine h.go (h2.bW.grown a2 h2.bW.size (fun k e=>by obtain rfl:=zC e;exact h.low)) a1 (fun g hx hl=>?_)
 refine ⟨(a2.block g (Nat.lt_of_lt_of_le hl hg.size) (fun e=>hx.2.1 (zC e))).trans (hg.block g hl (fun e=>hx.2.2 e.symm)),hx.1,hx.2.1,?_⟩
 rcases ef with q|q
 ·rw[q];exact hx.2.2
 ·rw[q];intro e;obtain rfl:=zC e;omega
theorem po.new {x0 x1 x2 x3 x4 x5 x6:Value} (hb:Below wo.heap.size wo w) (dD:wo.heap.size≤b) (hk:w.heap[b]?=some (.cells #[x0,x1,x2,x3,x4,x5,x6] 46 (0,0))) (ho:gO (R1 wo b) w 9 1 uo os.length (bZ os)) (hm:gO (R1 wo b) w 46 7 um ms.length cm) (et:pf (R1 wo b) w cm ms) (he:gO (R1 wo b) w 67 4 ue es.length ce) (fv:pn (R1 wo b) w ce es) (hr:gO (R1 wo b) w 111 2 ur rs.length (kQ rs)) (hg:gO (R1 wo b) w 9 1 ug gs.length (bZ gs)) :
  po wo (((((((w.setCell ⟨b,0,none⟩ (.string nm)).setCell ⟨b,1,none⟩ (.slice none 0 0)).setCell ⟨b,2,none⟩ uo).setCell ⟨b,3,none⟩ um).setCell ⟨b,4,none⟩ ue).setCell ⟨b,5,none⟩ ur).setCell ⟨b,6,none⟩ ug) b (.slice none 0 0) uo um ue ur ug cm ce nm os ms es rs gs:=by
 obtain ⟨a1,a2⟩:=bh (j:=0) hk (.string nm)
 obtain ⟨b1,b2⟩:=bh (j:=1) a1 (.slice none 0 0)
 obtain ⟨c1,c2⟩:=bh (j:=2) b1 uo
 obtain ⟨d1,d2⟩:=bh (j:=3) c1 um
 obtain ⟨e1,e2⟩:=bh (j:=4) d1 ue
 obtain ⟨f1,f2⟩:=bh (j:=5) e1 ur
 obtain ⟨g1,g2⟩:=bh (j:=6) f1 ug
 have nj:=(((((a2.trans b2).trans c2).trans d2).trans e2).trans f2).trans g2
 have hs:gM (R1 wo b) (Rx wo b (.slice none 0 0)) w (((((((w.setCell ⟨b,0,none⟩ (.string nm)).setCell ⟨b,1,none⟩ (.slice none 0 0)).setCell ⟨b,2,none⟩ uo).setCell ⟨b,3,none⟩ um).setCell ⟨b,4,none⟩ ue).setCell ⟨b,5,none⟩ ur).setCell ⟨b,6,none⟩ ug):=fun g hg hl=>⟨nj.block g hl (fun e=>hg.2 (zC e)),hg.1,hg.2,by simp[Value.ownBlock]⟩
 exact ⟨hb.grown nj hb.size (fun k e=>by obtain rfl:=zC e;exact dD),dD,g1,ho.mono hs,hm.mono hs,et.mono hs,he.mono hs,fv.mono hs,hr.mono hs,hg.mono hs⟩
theorem Gz {w0 wr wy w2:World}{v3 v':Value}{iN:List Value}{l:List Ms}{i f:Nat}{fs:List Fd}{M7:List Ms} (hO:wo.ownsRow w0.heap.size 46 7 v3 i iN) (hE:pf (Rest w0.heap.size v3) wo iN ((l.take i).map (lM f))) (hC:po wo wr b uf uo um ue ur ug cm ce nm os (gK f M7) es rs gs) (hV:wr.ownsRow wo.heap.size 42 6 uf fs.length (fw fs)) (RL:fs.length*72≤140737488355328) (hB:w0.heap.size≤wo.heap.size) (hr:l[i]?=some (.mk nm fs os M7 es rs gs))
  (hy:Below wr.heap.size wr wy) (hg:wy.grownBy w2 v3.ownBlock) (ef:v'.ownBlock=v3.ownBlock∨v'.ownBlock=some wy.heap.size):pf (Rest w0.heap.size v') w2 (iN++[.string nm,uf,uo,um,ue,ur,ug]) ((l.take (i+1)).map (lM f)):=by
 have xM:=hC.bW.size
 have gp:=hy.size
 rw[bL hr,List.map_append,List.map_cons,List.map_nil,yd]
 have fl:∀(R:Nat→Prop),(∀g,R g→wo.heap.size≤g)→gM R (Rest w0.heap.size v') wr w2:=by
  intro R hR g dM hl
  have hg0:=hR g dM
  have iI:v3.ownBlock≠some g:=fun e=>by have:=(hO.lt g e).2;omega
  refine ⟨(hg.block g (by omega) (fun e=>iI e.symm)).trans (hy.block g (by omega)),by omega,?_⟩
  rcases ef with e|e
  ·rw[e];exact iI
  ·rw[e];intro q;obtain rfl:=zC q;omega
 have hx:=fl (Rx wo b uf) (fun g h=>h.1)
 refine (hE.mono (R':=Rest w0.heap.size v') (fun g dM hl=>?_)).app (.cons ((cz hV (by omega)).mono (fl _ (fun _ h=>h))) (hC.o.mono hx) (hC.m.mono hx) (hC.ms.mono hx) (hC.e.mono hx) (hC.es.mono hx) (hC.r.mono hx) (hC.g.mono hx) .nil)
 refine ⟨((hg.block g (by omega) (fun e=>dM.2 e.symm)).trans (hy.block g (by omega))).trans (hC.bW.block g hl),dM.1,?_⟩
 rcases ef with e|e
 ·rw[e];exact dM.2
 ·rw[e];intro q;obtain rfl:=zC q;omega
end
end Go.Proofs.YtichhjfjcinjgaaGreatDoor

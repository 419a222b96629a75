import Derived.Test.YtichhjfjcinjgaaGreatDoorYBc
namespace Go.Proofs.YtichhjfjcinjgaaGreatDoor
open Go.RowKit
attribute [local go_sem ↓] Go.wp_at_zero Go.wp_at_succ
theorem NM:(Tryz.prog.info? 46).map (fun i=>(i.zero,i.size,i.bytes))=some (some (.agg #[.string ByteArray.empty,.slice none 0 0,.slice none 0 0,.slice none 0 0,.slice none 0 0,.slice none 0 0,.slice none 0 0]),7,160):=by kernel_rfl
theorem NN:(Tryz.prog.info? 42).map (fun i=>(i.zero,i.size,i.bytes))=some (some (.agg #[.int .i64 0,.string ByteArray.empty,.string ByteArray.empty,.string ByteArray.empty,.int .i64 0,.int .i64 0]),6,72):=by kernel_rfl
theorem KE {l:List Fd}{i:Nat}{x:Fd} (h:l[i]?=some x):fB (l.take (i+1))=fB (l.take i)++x.cs:=by
 rw[bM h]
 unfold fB
 rw[List.flatMap_append]
 simp
def lN:Nat→Ms→Ms
 |0,.mk nm fs os _ es rs gs=>.mk nm fs os [] es rs gs
 |f+1,.mk nm fs os ms es rs gs=>.mk nm fs os (ms.map (lN f)) es rs gs
def fY:Nat→List Ms→List Ms
 |0,_=>[]
 |f+1,l=>l.map (lN f)
theorem yJ:∀(f:Nat) (nm:ByteArray) (fs:List Fd) (os:List ByteArray) (ms:List Ms) (es:List En) (rs:List (Int×Int)) (gs:List ByteArray),lN f (.mk nm fs os ms es rs gs)=.mk nm fs os (fY f ms) es rs gs
 |0,_,_,_,_,_,_,_=>rfl
 |_+1,_,_,_,_,_,_,_=>rfl
theorem pq {f:Nat}{l:List Ms}:(fY f l).length≤l.length:=by
 cases f with
 |zero=>exact Nat.zero_le _
 |succ f=>simp[fY]
def Qt (fs:List Fd) (os:List ByteArray) (ms:List Ms) (es:List En) (rs:List (Int×Int)) (gs:List ByteArray):Prop :=
 fs.length*72≤140737488355328∧os.length*16≤140737488355328∧ms.length*160≤140737488355328∧es.length*88≤140737488355328∧(∀e ∈ es,Kd e)∧rs.length*16≤140737488355328∧gs.length*16≤140737488355328
def El:Nat→Ms→Prop
 |0,.mk _ fs os ms es rs gs=>Qt fs os ms es rs gs
 |f+1,.mk _ fs os ms es rs gs=>Qt fs os ms es rs gs∧∀m ∈ ms,El f m
theorem El.s {f:Nat}{nm:ByteArray}{fs:List Fd}{os:List ByteArray}{ms:List Ms}{es:List En}{rs:List (Int×Int)}{gs:List ByteArray} (h:El f (.mk nm fs os ms es rs gs)):Qt fs os ms es rs gs:=by
 cases f with
 |zero=>exact h
 |succ f=>exact h.1
def L3 (f:Nat):Prop:=∀(W:World) (v:Value) (l:List Ms) (cs:List Value),Rl W v l.length cs→tH W cs l→l.length*160≤140737488355328→(∀m ∈ l,El f m)→∀w0,Below W.heap.size W w0 →
 Calls Tryz.prog 17 #[v,.int .i64 (200-(f:Int))] w0 fun e w=>∃u iU,e=.returned u∧w.ownsRow w0.heap.size 46 7 u (fY f l).length iU∧pG (Rest w0.heap.size u) w iU (fY f l)∧Below w0.heap.size w0 w
def R0 (wo:World) (g:Nat):Prop:=wo.heap.size≤g
def R1 (wo:World) (b g:Nat):Prop:=wo.heap.size≤g∧g≠b
def Rx (wo:World) (b:Nat) (u:Value) (g:Nat):Prop:=wo.heap.size≤g∧g≠b∧u.ownBlock≠some g
theorem Q7 {wo w:World}{B:Nat} (h:wo.heap.size≤B):gR (fun g=>B≤g) (R0 wo) w w:=fun _ hg _=>⟨rfl,Nat.le_trans h hg⟩
theorem vR {wo w:World}{B b:Nat} (h:wo.heap.size≤B) (hb:b<B):gR (fun g=>B≤g) (R1 wo b) w w:=fun g (hg:B≤g) _=>⟨rfl,Nat.le_trans h hg,by omega⟩
theorem YV {wo w:World}{B:Nat}{u:Value} (h:wo.heap.size≤B):gR (Rest B u) (R0 wo) w w:=fun _ hg _=>⟨rfl,Nat.le_trans h hg.1⟩
theorem Q8 {wo w:World}{B b:Nat}{u:Value} (h:wo.heap.size≤B) (hb:b<B):gR (Rest B u) (R1 wo b) w w:=fun g hg _=>⟨rfl,Nat.le_trans h hg.1,by have:=hg.1;omega⟩
theorem vF {wo w w2:World} (hb:Below w.heap.size w w2):gR (R0 wo) (R1 wo w.heap.size) w w2:=fun g hg hl=>⟨hb.block g hl,hg,by omega⟩
structure pK (wo w:World) (b:Nat) (uf uo um ue ur ug:Value) (cm ce:List Value) (nm:ByteArray) (os:List ByteArray) (ms:List Ms) (es:List En) (rs:List (Int×Int)) (gs:List ByteArray):Prop where
 bU:Below wo.heap.size wo w
 low:wo.heap.size≤b
 dt:w.heap[b]?=some (.cells #[.string nm,uf,uo,um,ue,ur,ug] 46 (0,0))
 o:gU (Rx wo b uf) w 9 1 uo os.length (cc os)
 m:gU (Rx wo b uf) w 46 7 um ms.length cm
 ms:pG (Rx wo b uf) w cm ms
 e:gU (Rx wo b uf) w 67 4 ue es.length ce
 es:pJ (Rx wo b uf) w ce es
 r:gU (Rx wo b uf) w 111 2 ur rs.length (lj rs)
 g:gU (Rx wo b uf) w 9 1 ug gs.length (cc gs)
section
variable {wo w : World} {b : Nat} {uf uo um ue ur ug : Value} {cm ce : List Value} {nm : ByteArray} {os : List ByteArray} {ms : List Ms} {es : List En} {rs : List (Int × Int)} {gs : List ByteArray}
theorem pK.go (h:pK wo w b uf uo um ue ur ug cm ce nm os ms es rs gs) {w':World}{u':Value} (hb:Below wo.heap.size wo w') (hk:w'.heap[b]?=some (.cells #[.string nm,u',uo,um,ue,ur,ug] 46 (0,0))) (hs:gR (Rx wo b uf) (Rx wo b u') w w'):pK wo w' b u' uo um ue ur ug cm ce nm os ms es rs gs :=
 ⟨hb,h.low,hk,h.o.mono hs,h.m.mono hs,h.ms.mono hs,h.e.mono hs,h.es.mono hs,h.r.mono hs,h.g.mono hs⟩
theorem pK.below (h:pK wo w b uf uo um ue ur ug cm ce nm os ms es rs gs) {w':World} (hb:Below w.heap.size w w'):pK wo w' b uf uo um ue ur ug cm ce nm os ms es rs gs :=
 h.go (h.bU.trans (hb.mono h.bU.size)) ((hb.block _ (zA h.dt).1).trans h.dt) (aB hb)
theorem pK.Cp (h:pK wo w b uf uo um ue ur ug cm ce nm os ms es rs gs) {w':World} (hg:w.grownBy w' uf.ownBlock) (h1:∀j,uf.ownBlock=some j→wo.heap.size≤j) (h2:uf.ownBlock≠some b):pK wo w' b uf uo um ue ur ug cm ce nm os ms es rs gs :=
 h.go (h.bU.grown hg h.bU.size h1) ((hg.block _ (zA h.dt).1 (fun e=>h2 e.symm)).trans h.dt) (gr hg (fun _ hg=>hg.2.2))
theorem pK.val (h:pK wo w b uf uo um ue ur ug cm ce nm os ms es rs gs) (u:Value) (hu:∀g,g<w.heap.size→Rx wo b uf g→u.ownBlock≠some g):pK wo (w.setCell ⟨b,1,none⟩ u) b u uo um ue ur ug cm ce nm os ms es rs gs∧w.grownBy (w.setCell ⟨b,1,none⟩ u) (some b):=by
 obtain ⟨a1,a2⟩:=bh (j:=1) h.dt u
 exact ⟨h.go (h.bU.grown a2 h.bU.size (fun k e=>by obtain rfl:=zC e;exact h.low)) a1 (fun g hg hl=>⟨a2.block g hl (fun e=>hg.2.1 (zC e)),hg.1,hg.2.1,hu g hl hg⟩),a2⟩
theorem pK.grow {wy w2:World}{u':Value} (h:pK wo wy b uf uo um ue ur ug cm ce nm os ms es rs gs) (hg:wy.grownBy w2 uf.ownBlock) (h2:pK wo w2 b uf uo um ue ur ug cm ce nm os ms es rs gs) (ei:u'.ownBlock=uf.ownBlock∨u'.ownBlock=some wy.heap.size):pK wo (w2.setCell ⟨b,1,none⟩ u') b u' uo um ue ur ug cm ce nm os ms es rs gs:=by
 obtain ⟨a1,a2⟩:=bh (j:=1) h2.dt u'
 refine h.go (h2.bU.grown a2 h2.bU.size (fun k e=>by obtain rfl:=zC e;exact h.low)) a1 (fun g hx hl=>?_)
 refine ⟨(a2.block g (Nat.lt_of_lt_of_le hl hg.size) (fun e=>hx.2.1 (zC e))).trans (hg.block g hl (fun e=>hx.2.2 e.symm)),hx.1,hx.2.1,?_⟩
 rcases ei with q|q
 ·rw[q];exact hx.2.2
 ·rw[q];intro e;obtain rfl:=zC e;omega
theorem pK.new {x0 x1 x2 x3 x4 x5 x6:Value} (hb:Below wo.heap.size wo w) (dF:wo.heap.size≤b) (hk:w.heap[b]?=some (.cells #[x0,x1,x2,x3,x4,x5,x6] 46 (0,0))) (ho:gU (R1 wo b) w 9 1 uo os.length (cc os)) (hm:gU (R1 wo b) w 46 7 um ms.length cm) (eo:pG (R1 wo b) w cm ms) (he:gU (R1 wo b) w 67 4 ue es.length ce) (fA:pJ (R1 wo b) w ce es) (hr:gU (R1 wo b) w 111 2 ur rs.length (lj rs)) (hg:gU (R1 wo b) w 9 1 ug gs.length (cc gs)) :
  pK wo (((((((w.setCell ⟨b,0,none⟩ (.string nm)).setCell ⟨b,1,none⟩ (.slice none 0 0)).setCell ⟨b,2,none⟩ uo).setCell ⟨b,3,none⟩ um).setCell ⟨b,4,none⟩ ue).setCell ⟨b,5,none⟩ ur).setCell ⟨b,6,none⟩ ug) b (.slice none 0 0) uo um ue ur ug cm ce nm os ms es rs gs:=by
 obtain ⟨a1,a2⟩:=bh (j:=0) hk (.string nm)
 obtain ⟨b1,b2⟩:=bh (j:=1) a1 (.slice none 0 0)
 obtain ⟨c1,c2⟩:=bh (j:=2) b1 uo
 obtain ⟨d1,d2⟩:=bh (j:=3) c1 um
 obtain ⟨e1,e2⟩:=bh (j:=4) d1 ue
 obtain ⟨f1,f2⟩:=bh (j:=5) e1 ur
 obtain ⟨g1,g2⟩:=bh (j:=6) f1 ug
 have nL:=(((((a2.trans b2).trans c2).trans d2).trans e2).trans f2).trans g2
 have hs:gR (R1 wo b) (Rx wo b (.slice none 0 0)) w (((((((w.setCell ⟨b,0,none⟩ (.string nm)).setCell ⟨b,1,none⟩ (.slice none 0 0)).setCell ⟨b,2,none⟩ uo).setCell ⟨b,3,none⟩ um).setCell ⟨b,4,none⟩ ue).setCell ⟨b,5,none⟩ ur).setCell ⟨b,6,none⟩ ug):=fun g hg hl=>⟨nL.block g hl (fun e=>hg.2 (zC e)),hg.1,hg.2,by simp[Value.ownBlock]⟩
 exact ⟨hb.grown nL hb.size (fun k e=>by obtain rfl:=zC e;exact dF),dF,g1,ho.mono hs,hm.mono hs,eo.mono hs,he.mono hs,fA.mono hs,hr.mono hs,hg.mono hs⟩
theorem G8 {w0 wr wy w2:World}{v3 v':Value}{iU:List Value}{l:List Ms}{i f:Nat}{fs:List Fd}{Nx:List Ms} (hO:wo.ownsRow w0.heap.size 46 7 v3 i iU) (hE:pG (Rest w0.heap.size v3) wo iU ((l.take i).map (lN f))) (hC:pK wo wr b uf uo um ue ur ug cm ce nm os (fY f Nx) es rs gs) (hV:wr.ownsRow wo.heap.size 42 6 uf fs.length (fB fs)) (Sf:fs.length*72≤140737488355328) (hB:w0.heap.size≤wo.heap.size) (hr:l[i]?=some (.mk nm fs os Nx es rs gs))
  (hy:Below wr.heap.size wr wy) (hg:wy.grownBy w2 v3.ownBlock) (ei:v'.ownBlock=v3.ownBlock∨v'.ownBlock=some wy.heap.size):pG (Rest w0.heap.size v') w2 (iU++[.string nm,uf,uo,um,ue,ur,ug]) ((l.take (i+1)).map (lN f)):=by
 have yo:=hC.bU.size
 have gD:=hy.size
 rw[bM hr,List.map_append,List.map_cons,List.map_nil,yJ]
 have fv:∀(R:Nat→Prop),(∀g,R g→wo.heap.size≤g)→gR R (Rest w0.heap.size v') wr w2:=by
  intro R hR g dO hl
  have hg0:=hR g dO
  have iP:v3.ownBlock≠some g:=fun e=>by have:=(hO.lt g e).2;omega
  refine ⟨(hg.block g (by omega) (fun e=>iP e.symm)).trans (hy.block g (by omega)),by omega,?_⟩
  rcases ei with e|e
  ·rw[e];exact iP
  ·rw[e];intro q;obtain rfl:=zC q;omega
 have hx:=fv (Rx wo b uf) (fun g h=>h.1)
 refine (hE.mono (R':=Rest w0.heap.size v') (fun g dO hl=>?_)).app (.cons ((cB hV (by omega)).mono (fv _ (fun _ h=>h))) (hC.o.mono hx) (hC.m.mono hx) (hC.ms.mono hx) (hC.e.mono hx) (hC.es.mono hx) (hC.r.mono hx) (hC.g.mono hx) .nil)
 refine ⟨((hg.block g (by omega) (fun e=>dO.2 e.symm)).trans (hy.block g (by omega))).trans (hC.bU.block g hl),dO.1,?_⟩
 rcases ei with e|e
 ·rw[e];exact dO.2
 ·rw[e];intro q;obtain rfl:=zC q;omega
end
end Go.Proofs.YtichhjfjcinjgaaGreatDoor

import Derived.Test.YtichhjfjcinjgaaGreatDoorYBc
namespace Go.Proofs.YtichhjfjcinjgaaGreatDoor
open Go.RowKit
attribute [local go_sem ↓] Go.wp_at_zero Go.wp_at_succ
theorem M':(Tryz.prog.info? 46).map (fun i=>(i.zero,i.size,i.bytes))=some (some (.agg #[.string ByteArray.empty,.slice none 0 0,.slice none 0 0,.slice none 0 0,.slice none 0 0,.slice none 0 0,.slice none 0 0]),7,160):=by kernel_rfl
theorem Na:(Tryz.prog.info? 42).map (fun i=>(i.zero,i.size,i.bytes))=some (some (.agg #[.int .i64 0,.string ByteArray.empty,.string ByteArray.empty,.string ByteArray.empty,.int .i64 0,.int .i64 0]),6,72):=by kernel_rfl
theorem JT {l:List Fd}{i:Nat}{x:Fd} (h:l[i]?=some x):fp (l.take (i+1))=fp (l.take i)++x.cs:=by
 rw[bL h]
 unfold fp
 rw[List.flatMap_append]
 simp
def lK:Nat→Ms→Ms
 |0,.mk nm fs os _ es rs gs=>.mk nm fs os [] es rs gs
 |f+1,.mk nm fs os ms es rs gs=>.mk nm fs os (ms.map (lK f)) es rs gs
def gI:Nat→List Ms→List Ms
 |0,_=>[]
 |f+1,l=>l.map (lK f)
theorem ya:∀(f:Nat) (nm:ByteArray) (fs:List Fd) (os:List ByteArray) (ms:List Ms) (es:List En) (rs:List (Int×Int)) (gs:List ByteArray),lK f (.mk nm fs os ms es rs gs)=.mk nm fs os (gI f ms) es rs gs
 |0,_,_,_,_,_,_,_=>rfl
 |_+1,_,_,_,_,_,_,_=>rfl
theorem oS {f:Nat}{l:List Ms}:(gI f l).length≤l.length:=by
 cases f with
 |zero=>exact Nat.zero_le _
 |succ f=>simp[gI]
def PR (fs:List Fd) (os:List ByteArray) (ms:List Ms) (es:List En) (rs:List (Int×Int)) (gs:List ByteArray):Prop :=
 fs.length*72≤140737488355328∧os.length*16≤140737488355328∧ms.length*160≤140737488355328∧es.length*88≤140737488355328∧(∀e ∈ es,Jx e)∧rs.length*16≤140737488355328∧gs.length*16≤140737488355328
def DI:Nat→Ms→Prop
 |0,.mk _ fs os ms es rs gs=>PR fs os ms es rs gs
 |f+1,.mk _ fs os ms es rs gs=>PR fs os ms es rs gs∧∀m ∈ ms,DI f m
theorem DI.s {f:Nat}{nm:ByteArray}{fs:List Fd}{os:List ByteArray}{ms:List Ms}{es:List En}{rs:List (Int×Int)}{gs:List ByteArray} (h:DI f (.mk nm fs os ms es rs gs)):PR fs os ms es rs gs:=by
 cases f with
 |zero=>exact h
 |succ f=>exact h.1
def Lo (f:Nat):Prop:=∀(W:World) (v:Value) (l:List Ms) (cs:List Value),Rl W v l.length cs→s8 W cs l→l.length*160≤140737488355328→(∀m ∈ l,DI f m)→∀w0,Below W.heap.size W w0 →
 Calls Tryz.prog 17 #[v,.int .i64 (200-(f:Int))] w0 fun e w=>∃u iH,e=.returned u∧w.ownsRow w0.heap.size 46 7 u (gI f l).length iH∧pa (Rest w0.heap.size u) w iH (gI f l)∧Below w0.heap.size w0 w
def R0 (wo:World) (g:Nat):Prop:=wo.heap.size≤g
def R1 (wo:World) (b g:Nat):Prop:=wo.heap.size≤g∧g≠b
def Rx (wo:World) (b:Nat) (u:Value) (g:Nat):Prop:=wo.heap.size≤g∧g≠b∧u.ownBlock≠some g
theorem Qw {wo w:World}{B:Nat} (h:wo.heap.size≤B):gK (fun g=>B≤g) (R0 wo) w w:=fun _ hg _=>⟨rfl,Nat.le_trans h hg⟩
theorem vh {wo w:World}{B b:Nat} (h:wo.heap.size≤B) (hb:b<B):gK (fun g=>B≤g) (R1 wo b) w w:=fun g (hg:B≤g) _=>⟨rfl,Nat.le_trans h hg,by omega⟩
theorem Ys {wo w:World}{B:Nat}{u:Value} (h:wo.heap.size≤B):gK (Rest B u) (R0 wo) w w:=fun _ hg _=>⟨rfl,Nat.le_trans h hg.1⟩
theorem Qx {wo w:World}{B b:Nat}{u:Value} (h:wo.heap.size≤B) (hb:b<B):gK (Rest B u) (R1 wo b) w w:=fun g hg _=>⟨rfl,Nat.le_trans h hg.1,by have:=hg.1;omega⟩
theorem uR {wo w w2:World} (hb:Below w.heap.size w w2):gK (R0 wo) (R1 wo w.heap.size) w w2:=fun g hg hl=>⟨hb.block g hl,hg,by omega⟩
structure pf (wo w:World) (b:Nat) (uf uo um ue ur ug:Value) (cm ce:List Value) (nm:ByteArray) (os:List ByteArray) (ms:List Ms) (es:List En) (rs:List (Int×Int)) (gs:List ByteArray):Prop where
 bV:Below wo.heap.size wo w
 low:wo.heap.size≤b
 dj:w.heap[b]?=some (.cells #[.string nm,uf,uo,um,ue,ur,ug] 46 (0,0))
 o:gM (Rx wo b uf) w 9 1 uo os.length (bY os)
 m:gM (Rx wo b uf) w 46 7 um ms.length cm
 ms:pa (Rx wo b uf) w cm ms
 e:gM (Rx wo b uf) w 67 4 ue es.length ce
 es:pd (Rx wo b uf) w ce es
 r:gM (Rx wo b uf) w 111 2 ur rs.length (kO rs)
 g:gM (Rx wo b uf) w 9 1 ug gs.length (bY gs)
section
variable {wo w : World} {b : Nat} {uf uo um ue ur ug : Value} {cm ce : List Value} {nm : ByteArray} {os : List ByteArray} {ms : List Ms} {es : List En} {rs : List (Int × Int)} {gs : List ByteArray}
theorem pf.go (h:pf wo w b uf uo um ue ur ug cm ce nm os ms es rs gs) {w':World}{u':Value} (hb:Below wo.heap.size wo w') (hk:w'.heap[b]?=some (.cells #[.string nm,u',uo,um,ue,ur,ug] 46 (0,0))) (hs:gK (Rx wo b uf) (Rx wo b u') w w'):pf wo w' b u' uo um ue ur ug cm ce nm os ms es rs gs :=
 ⟨hb,h.low,hk,h.o.mono hs,h.m.mono hs,h.ms.mono hs,h.e.mono hs,h.es.mono hs,h.r.mono hs,h.g.mono hs⟩
theorem pf.below (h:pf wo w b uf uo um ue ur ug cm ce nm os ms es rs gs) {w':World} (hb:Below w.heap.size w w'):pf wo w' b uf uo um ue ur ug cm ce nm os ms es rs gs :=
 h.go (h.bV.trans (hb.mono h.bV.size)) ((hb.block _ (zA h.dj).1).trans h.dj) (aC hb)
theorem pf.BR (h:pf wo w b uf uo um ue ur ug cm ce nm os ms es rs gs) {w':World} (hg:w.grownBy w' uf.ownBlock) (h1:∀j,uf.ownBlock=some j→wo.heap.size≤j) (h2:uf.ownBlock≠some b):pf wo w' b uf uo um ue ur ug cm ce nm os ms es rs gs :=
 h.go (h.bV.grown hg h.bV.size h1) ((hg.block _ (zA h.dj).1 (fun e=>h2 e.symm)).trans h.dj) (j3 hg (fun _ hg=>hg.2.2))
theorem pf.val (h:pf wo w b uf uo um ue ur ug cm ce nm os ms es rs gs) (u:Value) (hu:∀g,g<w.heap.size→Rx wo b uf g→u.ownBlock≠some g):pf wo (w.setCell ⟨b,1,none⟩ u) b u uo um ue ur ug cm ce nm os ms es rs gs∧w.grownBy (w.setCell ⟨b,1,none⟩ u) (some b):=by
 obtain ⟨a1,a2⟩:=bh (j:=1) h.dj u
 exact ⟨h.go (h.bV.grown a2 h.bV.size (fun k e=>by obtain rfl:=zC e;exact h.low)) a1 (fun g hg hl=>⟨a2.block g hl (fun e=>hg.2.1 (zC e)),hg.1,hg.2.1,hu g hl hg⟩),a2⟩
theorem pf.grow {wy w2:World}{u':Value} (h:pf wo wy b uf uo um ue ur ug cm ce nm os ms es rs gs) (hg:wy.grownBy w2 uf.ownBlock) (h2:pf wo w2 b uf uo um ue ur ug cm ce nm os ms es rs gs) (dZ:u'.ownBlock=uf.ownBlock∨u'.ownBlock=some wy.heap.size):pf wo (w2.setCell ⟨b,1,none⟩ u') b u' uo um ue ur ug cm ce nm os ms es rs gs:=by
 obtain ⟨a1,a2⟩:=bh (j:=1) h2.dj u'
 refine h.go (h2.bV.grown a2 h2.bV.size (fun k e=>by obtain rfl:=zC e;exact h.low)) a1 (fun g hx hl=>?_)
 refine ⟨(a2.block g (Nat.lt_of_lt_of_le hl hg.size) (fun e=>hx.2.1 (zC e))).trans (hg.block g hl (fun e=>hx.2.2 e.symm)),hx.1,hx.2.1,?_⟩
 rcases dZ with q|q
 ·rw[q];exact hx.2.2
 ·rw[q];intro e;obtain rfl:=zC e;omega
theorem pf.new {x0 x1 x2 x3 x4 x5 x6:Value} (hb:Below wo.heap.size wo w) (dB:wo.heap.size≤b) (hk:w.heap[b]?=some (.cells #[x0,x1,x2,x3,x4,x5,x6] 46 (0,0))) (ho:gM (R1 wo b) w 9 1 uo os.length (bY os)) (hm:gM (R1 wo b) w 46 7 um ms.length cm) (ej:pa (R1 wo b) w cm ms) (he:gM (R1 wo b) w 67 4 ue es.length ce) (fl:pd (R1 wo b) w ce es) (hr:gM (R1 wo b) w 111 2 ur rs.length (kO rs)) (hg:gM (R1 wo b) w 9 1 ug gs.length (bY gs)) :
  pf wo (((((((w.setCell ⟨b,0,none⟩ (.string nm)).setCell ⟨b,1,none⟩ (.slice none 0 0)).setCell ⟨b,2,none⟩ uo).setCell ⟨b,3,none⟩ um).setCell ⟨b,4,none⟩ ue).setCell ⟨b,5,none⟩ ur).setCell ⟨b,6,none⟩ ug) b (.slice none 0 0) uo um ue ur ug cm ce nm os ms es rs gs:=by
 obtain ⟨a1,a2⟩:=bh (j:=0) hk (.string nm)
 obtain ⟨b1,b2⟩:=bh (j:=1) a1 (.slice none 0 0)
 obtain ⟨c1,c2⟩:=bh (j:=2) b1 uo
 obtain ⟨d1,d2⟩:=bh (j:=3) c1 um
 obtain ⟨e1,e2⟩:=bh (j:=4) d1 ue
 obtain ⟨f1,f2⟩:=bh (j:=5) e1 ur
 obtain ⟨g1,g2⟩:=bh (j:=6) f1 ug
 have nh:=(((((a2.trans b2).trans c2).trans d2).trans e2).trans f2).trans g2
 have hs:gK (R1 wo b) (Rx wo b (.slice none 0 0)) w (((((((w.setCell ⟨b,0,none⟩ (.string nm)).setCell ⟨b,1,none⟩ (.slice none 0 0)).setCell ⟨b,2,none⟩ uo).setCell ⟨b,3,none⟩ um).setCell ⟨b,4,none⟩ ue).setCell ⟨b,5,none⟩ ur).setCell ⟨b,6,none⟩ ug):=fun g hg hl=>⟨nh.block g hl (fun e=>hg.2 (zC e)),hg.1,hg.2,by simp[Value.ownBlock]⟩
 exact ⟨hb.grown nh hb.size (fun k e=>by obtain rfl:=zC e;exact dB),dB,g1,ho.mono hs,hm.mono hs,ej.mono hs,he.mono hs,fl.mono hs,hr.mono hs,hg.mono hs⟩
theorem Gm {w0 wr wy w2:World}{v3 v':Value}{iH:List Value}{l:List Ms}{i f:Nat}{fs:List Fd}{MT:List Ms} (hO:wo.ownsRow w0.heap.size 46 7 v3 i iH) (hE:pa (Rest w0.heap.size v3) wo iH ((l.take i).map (lK f))) (hC:pf wo wr b uf uo um ue ur ug cm ce nm os (gI f MT) es rs gs) (hV:wr.ownsRow wo.heap.size 42 6 uf fs.length (fp fs)) (Ry:fs.length*72≤140737488355328) (hB:w0.heap.size≤wo.heap.size) (hr:l[i]?=some (.mk nm fs os MT es rs gs))
  (hy:Below wr.heap.size wr wy) (hg:wy.grownBy w2 v3.ownBlock) (dZ:v'.ownBlock=v3.ownBlock∨v'.ownBlock=some wy.heap.size):pa (Rest w0.heap.size v') w2 (iH++[.string nm,uf,uo,um,ue,ur,ug]) ((l.take (i+1)).map (lK f)):=by
 have xK:=hC.bV.size
 have gj:=hy.size
 rw[bL hr,List.map_append,List.map_cons,List.map_nil,ya]
 have ff:∀(R:Nat→Prop),(∀g,R g→wo.heap.size≤g)→gK R (Rest w0.heap.size v') wr w2:=by
  intro R hR g dK hl
  have hg0:=hR g dK
  have iG:v3.ownBlock≠some g:=fun e=>by have:=(hO.lt g e).2;omega
  refine ⟨(hg.block g (by omega) (fun e=>iG e.symm)).trans (hy.block g (by omega)),by omega,?_⟩
  rcases dZ with e|e
  ·rw[e];exact iG
  ·rw[e];intro q;obtain rfl:=zC q;omega
 have hx:=ff (Rx wo b uf) (fun g h=>h.1)
 refine (hE.mono (R':=Rest w0.heap.size v') (fun g dK hl=>?_)).app (.cons ((cy hV (by omega)).mono (ff _ (fun _ h=>h))) (hC.o.mono hx) (hC.m.mono hx) (hC.ms.mono hx) (hC.e.mono hx) (hC.es.mono hx) (hC.r.mono hx) (hC.g.mono hx) .nil)
 refine ⟨((hg.block g (by omega) (fun e=>dK.2 e.symm)).trans (hy.block g (by omega))).trans (hC.bV.block g hl),dK.1,?_⟩
 rcases dZ with e|e
 ·rw[e];exact dK.2
 ·rw[e];intro q;obtain rfl:=zC q;omega
end
end Go.Proofs.YtichhjfjcinjgaaGreatDoor

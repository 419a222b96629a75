import Derived.Test.YtmlphohdcejniaaGreatDoorVU
namespace Go.Proofs.YtmlphohdcejniaaGreatDoor
open Go.RowKit
attribute [local go_sem ↓] Go.wp_at_zero Go.wp_at_succ
theorem Uk:(Tryz.prog.info? 94).map (fun i=>(i.zero,i.size,i.bytes))=some (some (.agg #[.string ByteArray.empty,.int .i64 0]),2,24):=by kernel_rfl
theorem Ul:(Tryz.prog.info? 68).map (fun i=>(i.zero,i.size,i.bytes))=some (some (.agg #[.string ByteArray.empty,.slice none 0 0,.slice none 0 0,.slice none 0 0]),4,88):=by kernel_rfl
def Rest (B:Nat) (v:Value) (g:Nat):Prop:=B≤g∧v.ownBlock≠some g
structure zv (wr w:World) (b:Nat) (uv ur ug:Value) (m:En):Prop where
 eL:Below wr.heap.size wr w
 low:wr.heap.size≤b
 dJ:w.heap[b]?=some (.cells #[.string m.name,uv,ur,ug] 68 (0,0))
 r:w.ownsRow wr.heap.size 111 2 ur m.res.length (lj m.res)
 g:w.ownsRow wr.heap.size 9 1 ug m.gone.length (bW m.gone)
theorem zv.aaM {wr w w':World}{b:Nat}{uv ur ug:Value}{m:En} (h:zv wr w b uv ur ug m) {k:Option Nat} (hg:w.grownBy w' k) (h1:∀j,k=some j→wr.heap.size≤j) (h2:k≠some b) (h3:ur.ownBlock=none∨ur.ownBlock≠k) (h4:ug.ownBlock=none∨ug.ownBlock≠k):zv wr w' b uv ur ug m :=
 ⟨h.eL.grown hg h.eL.size h1,h.low,(hg.block _ (zA h.dJ).1 (fun e=>h2 e.symm)).trans h.dJ,h.r.kept hg h3,h.g.kept hg h4⟩
theorem zv.below {wr w w':World}{b:Nat}{uv ur ug:Value}{m:En} (h:zv wr w b uv ur ug m) (hb:Below w.heap.size w w'):zv wr w' b uv ur ug m :=
 ⟨h.eL.trans (hb.mono h.eL.size),h.low,(hb.block _ (zA h.dJ).1).trans h.dJ,cz h.r hb,cz h.g hb⟩
theorem zv.new {wr w:World}{b:Nat}{ur ug x0 x1 x2 x3:Value}{m:En} (hb:Below wr.heap.size wr w) (dI:wr.heap.size≤b) (hk:w.heap[b]?=some (.cells #[x0,x1,x2,x3] 68 (0,0))) (hr:w.ownsRow wr.heap.size 111 2 ur m.res.length (lj m.res)) (hg:w.ownsRow wr.heap.size 9 1 ug m.gone.length (bW m.gone)) :
  zv wr ((((w.setCell ⟨b,0,none⟩ (.string m.name)).setCell ⟨b,1,none⟩ (.slice none 0 0)).setCell ⟨b,2,none⟩ ur).setCell ⟨b,3,none⟩ ug) b (.slice none 0 0) ur ug m:=by
 obtain ⟨a1,a2⟩:=aJ (j:=0) hk (.string m.name)
 obtain ⟨b1,b2⟩:=aJ (j:=1) a1 (.slice none 0 0)
 obtain ⟨c1,c2⟩:=aJ (j:=2) b1 ur
 obtain ⟨d1,d2⟩:=aJ (j:=3) c1 ug
 have vH:=((a2.trans b2).trans c2).trans d2
 exact ⟨hb.grown vH hb.size (fun k e=>by obtain rfl:=zC e;exact dI),dI,d1,hr.kept vH (.inr (bH hr hk (by decide))),hg.kept vH (.inr (bH hg hk (by decide)))⟩
theorem zv.val {wr w:World}{b:Nat}{uv ur ug:Value}{m:En} (h:zv wr w b uv ur ug m) (u:Value):zv wr (w.setCell ⟨b,1,none⟩ u) b u ur ug m∧w.grownBy (w.setCell ⟨b,1,none⟩ u) (some b):=by
 obtain ⟨a1,a2⟩:=aJ (j:=1) h.dJ u
 exact ⟨⟨h.eL.grown a2 h.eL.size (fun k e=>by obtain rfl:=zC e;exact h.low),h.low,a1,h.r.kept a2 (.inr (bH h.r h.dJ (by decide))),h.g.kept a2 (.inr (bH h.g h.dJ (by decide)))⟩,a2⟩
theorem jf {B:Nat}{w:World}{e size n:Nat}{v:Value}{xs:List Value} (h:w.ownsRow B e size v n xs):fm (fun g=>B≤g) w e size v n xs:=⟨eJ h (Nat.zero_le _),fun g e=>(h.lt g e).1⟩
theorem qC {w0 wo wr wy w2:World}{v3 v':Value}{P:Nat→Prop} (hP:∀g,P g→w0.heap.size≤g∧v3.ownBlock≠some g) (hs:wo.heap.size≤wr.heap.size) (hwr:∀g,P g→g<wo.heap.size→wr.heap[g]?=wo.heap[g]?) (hy:Below wr.heap.size wr wy) (hg:wy.grownBy w2 v3.ownBlock) (Ar:v'.ownBlock=v3.ownBlock∨v'.ownBlock=some wy.heap.size):jx P (Rest w0.heap.size v') wo w2:=fun g kV hl=>by
 obtain ⟨h1,h2⟩:=hP g kV
 have FN:=hy.size
 refine ⟨⟨h1,?_⟩,((hg.block g (by omega) (fun e=>h2 e.symm)).trans (hy.block g (by omega))).trans (hwr g kV hl)⟩
 rcases Ar with e|e
 ·rw[e];exact h2
 ·rw[e];intro q;obtain rfl:=zC q;omega
theorem L4 {w0 wo wr wy w2:World}{v3 v' uv ur ug:Value}{kO:List Value}{acc:List En}{i b:Nat}{m:En} (hO:wo.ownsRow w0.heap.size 68 4 v3 i kO) (hE:eS (Rest w0.heap.size v3) wo kO acc) (hC:zv wo wr b uv ur ug m) (hV:wr.ownsRow wo.heap.size 94 2 uv m.bL.length (xZ m.bL)) (hB:w0.heap.size≤wo.heap.size)
  (hy:Below wr.heap.size wr wy) (hg:wy.grownBy w2 v3.ownBlock) (Ar:v'.ownBlock=v3.ownBlock∨v'.ownBlock=some wy.heap.size):eS (Rest w0.heap.size v') w2 (kO++[.string m.name,uv,ur,ug]) (acc++[m]):=by
 have g1:jx (Rest w0.heap.size v3) (Rest w0.heap.size v') wo w2:=qC (fun g h=>h) hC.eL.size (fun g _ hl=>hC.eL.block g hl) hy hg Ar
 have g2:jx (fun g=>wo.heap.size≤g) (Rest w0.heap.size v') wr w2:=qC (wo:=wr) (wr:=wr) (fun g (h:wo.heap.size≤g)=>⟨by omega,fun e=>by have:=(hO.lt g e).2;omega⟩) (zD _) (fun _ _ _=>rfl) hy hg Ar
 exact (cT _ _ _ _ _ _ g1 hE).app (.cons ((jf hV).goes g2) ((jf hC.r).goes g2) ((jf hC.g).goes g2) .nil)
end Go.Proofs.YtmlphohdcejniaaGreatDoor

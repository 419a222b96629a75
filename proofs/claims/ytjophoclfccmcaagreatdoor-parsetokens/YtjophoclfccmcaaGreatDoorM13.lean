import Derived.Test.YtjophoclfccmcaaGreatDoorM12
import Derived.Shelf.Strings.Builder1
set_option maxHeartbeats 4000000
set_option maxRecDepth 100000
namespace Go.Proofs.YtjophoclfccmcaaGreatDoor
open Go.RowKit
attribute [local go_sem ↓] Go.wp_at_zero Go.wp_at_succ
def Jc (tm:Array Value):List (Nat×Value)→Prop
 |[]=>True
 |p::r=>tm[p.1]?=some p.2∧Jc tm r
theorem B3 {tm:Array Value} (h:tm.size=41):∃u:Nat→Value,tm=#[u 0,u 1,u 2,u 3,u 4,u 5,u 6,u 7,u 8,u 9,u 10,u 11,u 12,u 13,u 14,u 15,u 16,u 17,u 18,u 19,u 20,u 21,u 22,u 23,u 24,u 25,u 26,u 27,u 28,u 29,u 30,u 31,u 32,u 33,u 34,u 35,u 36,u 37,u 38,u 39,u 40]:=by
 refine ⟨fun i=>tm.getD i undef,?_⟩
 have e:tm=((List.range 41).map fun i=>tm.getD i undef).toArray:=by
  apply Array.ext
  ·simp[h]
  ·intro i h1 h2
   simp[Array.getD,h1]
 exact e.trans rfl
noncomputable def cZ (x:ByteArray):Int×Int:=if 65536<x.size then (0,2) else match wv (aI x) with
 |some u=>((u:Int),0)
 |none=>(0,41)
theorem M5 {W:World} (h:gU W) (x:ByteArray):Calls Tryz.prog 182 #[.string x] W fun e w=>e=.returned (.tuple #[.int .i64 (cZ x).1,.int .i64 (cZ x).2])∧Below W.heap.size W w:=by
 refine (FK h x).mono ?_
 rintro e w ⟨hb,n,c,rfl,hu⟩
 refine ⟨?_,hb⟩
 unfold cZ
 rcases hu with ⟨h1,rfl,rfl⟩|⟨h1,⟨u,h2,rfl,rfl⟩|⟨h2,rfl,rfl⟩⟩
 ·rw[if_pos h1]
 ·rw[if_neg (by omega),h2]
 ·rw[if_neg (by omega),h2]
noncomputable def BH:Code:=match Tryz.f176.body with
 |some (.seq _ (.seq _ x))=>x
 |_=>.skip
noncomputable def M8 (t:Code):Code:=match Tryz.f176.body with
 |some (.seq a (.seq b _))=>.seq a (.seq b t)
 |_=>.skip
theorem M7:Tryz.f176.body=some (M8 BH):=rfl
noncomputable def iA (lo hi:Int) (m:Bool) (s:ay):Except (Int×Int) (Int×ay) :=
 if s.here.kind=2 then (if (cZ s.here.text).2=0 then (if (if m=true then -(cZ s.here.text).1 else (cZ s.here.text).1)<lo∨hi<(if m=true then -(cZ s.here.text).1 else (cZ s.here.text).1) then .error (55,s.here.spot) else (match bz s with|.ok (_,s')=>.ok ((if m=true then -(cZ s.here.text).1 else (cZ s.here.text).1),s')|.error e=>.error e)) else .error ((cZ s.here.text).2,s.here.spot)) else .error (bR s)
def sK (n:Int):Value:=.int .i64 n
theorem nZ (x:ByteArray):0≤(cZ x).1∧(cZ x).1≤9223372036854775807:=by
 unfold cZ
 split
 ·simp
 ·split
  ·next u h =>
   have:=C3 h
   simp only
   omega
  ·simp
theorem yu {V W:World}{lb b bx:Nat}{s:ay}{lo hi:Int}{m:Bool}{R:Ending→World→Prop} (hv:Env V W b) (h:Rd lb W b s) (oU:bx≠b) (x0:W.cell? ⟨bx,0,none⟩=some (.int .i64 lo)) (x1:W.cell? ⟨bx,1,none⟩=some (.int .i64 hi))
  {tm:Array Value} (ck:tm.size=41) (j7:Jc tm [(0,.pointer (some ⟨b,0,none⟩)),(3,.pointer (some ⟨bx,0,none⟩)),(5,.bool m)]) (hR:∀e w,PR lb b W sK (iA lo hi m s) e w→R e w):BH.wp Tryz.prog (bodyPost Tryz.prog Tryz.f176 R) ⟨tm,[]⟩ W:=by
 have HR:=ab hR
 have hc:=ab (od h 2)
 obtain ⟨u,rfl⟩:=B3 ck
 obtain ⟨e0,e3,e5,_⟩:=j7
 replace e0:u 0=.pointer (some ⟨b,0,none⟩):=zC e0
 replace e3:u 3=.pointer (some ⟨bx,0,none⟩):=zC e3
 replace e5:u 5=.bool m:=zC e5
 rw[e0,e3,e5]
 have hlx:bx<W.heap.size:=World.block_lt_of_cell? W _ x0
 have HX:Hid (∀w,W.grownBy w (some b)→w.cell? ⟨bx,0,none⟩=some (.int .i64 lo)∧w.cell? ⟨bx,1,none⟩=some (.int .i64 hi)):=fun w hg =>
  ⟨(World.cell?_of_block (a:=⟨bx,0,none⟩) (hg.block bx hlx (by simpa using oU))).trans x0,(World.cell?_of_block (a:=⟨bx,1,none⟩) (hg.block bx hlx (by simpa using oU))).trans x1⟩
 have Hv:=ab hv
 have Hd:=ab h
 clear e0 e3 e5 ck hR x0 x1 hv
 obtain ⟨Q,hQ⟩:∃Q,bodyPost Tryz.prog Tryz.f176 R=Q:=⟨_,rfl⟩
 rw[hQ]
 unfold BH
 dsimp only[Tryz.f176]
 go_wp2_with fail
 refine (aa hc).mono ?_
 intro e w1 hw
 rcases hw.split with ⟨x,hr,rfl,hg⟩|⟨x,s1,hr,rfl,h1,hg⟩
 ·have hk:¬s.here.kind=2:=fun e=>by unfold eb at hr;rw[if_pos e] at hr;cases hr
  unfold eb at hr
  rw[if_neg hk] at hr
  obtain rfl:bR s=x:=Except.error.inj hr
  rw[←hQ]
  refine ⟨rfl,aa HR _ _ ?_⟩
  unfold iA
  rw[if_neg hk]
  exact ⟨rfl,hg⟩
 ·have hk:s.here.kind=2:=by
   apply Classical.byContradiction
   intro e
   unfold eb at hr
   rw[if_neg e] at hr
   cases hr
  unfold eb at hr
  rw[if_pos hk] at hr
  simp only[Except.ok.injEq,Prod.mk.injEq] at hr
  obtain ⟨rfl,rfl⟩:=hr
  have hp:=bN h.grown (by rw[hk];decide)
  have cA:=M5 ((aa Hv).step hg).Se s.here.text
  have nK:iA lo hi m s=(if (cZ s.here.text).2=0 then (if (if m=true then -(cZ s.here.text).1 else (cZ s.here.text).1)<lo∨hi<(if m=true then -(cZ s.here.text).1 else (cZ s.here.text).1) then .error (55,s.here.spot) else (match bz s with|.ok (_,s')=>.ok ((if m=true then -(cZ s.here.text).1 else (cZ s.here.text).1),s')|.error e=>.error e)) else .error ((cZ s.here.text).2,s.here.spot)):=by unfold iA;rw[if_pos hk]
  have eo:=nZ s.here.text
  have HEq:=ab nK
  have H1:=ab h1
  have Hg:=ab hg
  have EJ:=ab cA
  obtain ⟨x,hx⟩:∃x,s.here.text=x:=⟨_,rfl⟩
  rw[hx] at HEq EJ eo ⊢
  obtain ⟨⟨n,c⟩,ZD⟩:∃p,cZ x=p:=⟨_,rfl⟩
  rw[ZD] at HEq EJ eo
  simp only at HEq EJ eo
  clear hw h1 hg hk hc h hx nK cA ZD
  go_wp2_with fail
  refine (aa EJ).mono ?_
  rintro e w2 ⟨rfl,br⟩
  have H2:=ab ((aa H1).up br)
  have rY:=ab ((aa Hg).trans (aD b br))
  clear br EJ H1 Hg
  go_wp2_with fail
  refine (iC (aa H2) c).mono ?_
  intro e w3 iU
  by_cases h0:c=0
  ·rw[if_pos h0] at iU HEq
   obtain ⟨rfl,h3,cN⟩:=iU
   have H3:=ab h3
   have qN:=ab ((aa rY).trans cN)
   obtain ⟨x0,x1⟩:=aa HX w3 (aa qN)
   clear h3 cN H2 rY h0
   have HF:Hid (Calls Tryz.prog 92 #[.pointer (some ⟨b,0,none⟩),.int .i64 55] w3 fun e w=>e=qv 55 s.here.spot∧Below w3.heap.size w3 w):=mK (aa H3) 55
   have HN:Hid (Calls Tryz.prog 97 #[.pointer (some ⟨b,0,none⟩)] w3 (PR lb b w3 ub (bz s))):=dS (aa H3) hp
   have aaW:∀k:Int,(if m=true then -n else n)=k→-9223372036854775808<k→k≤9223372036854775807→(PR lb b W sK (iA lo hi m s)=PR lb b W sK (if k<lo∨hi<k then .error (55,s.here.spot) else (match bz s with|.ok (_,s')=>.ok (k,s')|.error e=>.error e))):=fun k hk _ _=>by rw[aa HEq,hk]
   have HGO:=ab aaW
   clear aaW HEq
   cases m with
   |true =>
    have Z7:=aa HGO (-n) (by simp) (by omega) (by omega)
    have ads:IntKind.i64.wrap (-n)=-n:=by rw[IntKind.wrap_i64];omega
    have S1:=ab Z7
    clear Z7 HGO
    by_cases a1:(-n)<lo
    ·have d1:decide ((-n)<lo)=true:=by simp[a1]
     have HE:Hid (∀w,Below w3.heap.size w3 w→R (qv 55 s.here.spot) w):=fun w hb=>aa HR _ _ (by rw[aa S1,if_pos (.inl a1)];exact ⟨rfl,(aa qN).trans (aD b hb)⟩)
     clear a1
     go_wp2_with fail
     refine (aa HF).mono ?_
     rintro e w4 ⟨rfl,fj⟩
     rw[←hQ]
     exact ⟨rfl,aa HE w4 fj⟩
    ·have d1:decide ((-n)<lo)=false:=by simp;omega
     by_cases a2:hi<(-n)
     ·have d2:decide (hi<(-n))=true:=by simp[a2]
      have HE:Hid (∀w,Below w3.heap.size w3 w→R (qv 55 s.here.spot) w):=fun w hb=>aa HR _ _ (by rw[aa S1,if_pos (.inr a2)];exact ⟨rfl,(aa qN).trans (aD b hb)⟩)
      clear a1 a2
      go_wp2_with fail
      refine (aa HF).mono ?_
      rintro e w4 ⟨rfl,fj⟩
      rw[←hQ]
      exact ⟨rfl,aa HE w4 fj⟩
     ·have d2:decide (hi<(-n))=false:=by simp;omega
      have HE:Hid (∀e w,PR lb b w3 ub (bz s) e w→(∃y:Int×Int,e=qv y.1 y.2∧R e w)∨(e=.returned (.tuple #[])∧R (.returned (.int .i64 (-n))) w)):=fun e w hw=>by
       have hn:¬((-n)<lo∨hi<(-n)):=fun q=>q.elim a1 a2
       rcases hw.split with ⟨y,hr,rfl,ld⟩|⟨y,s2,hr,rfl,h4,ld⟩
       ·exact .inl ⟨y,rfl,aa HR _ _ (by rw[aa S1,if_neg hn,hr];exact ⟨rfl,(aa qN).trans ld⟩)⟩
       ·exact .inr ⟨rfl,aa HR _ _ (by rw[aa S1,if_neg hn,hr];exact ⟨rfl,h4,(aa qN).trans ld⟩)⟩
      clear a1 a2
      go_wp2_with fail
      refine (aa HN).mono ?_
      intro e w4 ie
      rcases aa HE e w4 ie with ⟨y,rfl,h5⟩|⟨rfl,h5⟩
      ·rw[←hQ]
       exact ⟨rfl,h5⟩
      ·have H5:=ab h5
       clear h5 ie HE
       go_wp2
       rw[←hQ]
       go_ret
       exact aa H5
   |false =>
    have Z7:=aa HGO (n) (by simp) (by omega) (by omega)
    have S1:=ab Z7
    clear Z7 HGO
    by_cases a1:(n)<lo
    ·have d1:decide ((n)<lo)=true:=by simp[a1]
     have HE:Hid (∀w,Below w3.heap.size w3 w→R (qv 55 s.here.spot) w):=fun w hb=>aa HR _ _ (by rw[aa S1,if_pos (.inl a1)];exact ⟨rfl,(aa qN).trans (aD b hb)⟩)
     clear a1
     go_wp2_with fail
     refine (aa HF).mono ?_
     rintro e w4 ⟨rfl,fj⟩
     rw[←hQ]
     exact ⟨rfl,aa HE w4 fj⟩
    ·have d1:decide ((n)<lo)=false:=by simp;omega
     by_cases a2:hi<(n)
     ·have d2:decide (hi<(n))=true:=by simp[a2]
      have HE:Hid (∀w,Below w3.heap.size w3 w→R (qv 55 s.here.spot) w):=fun w hb=>aa HR _ _ (by rw[aa S1,if_pos (.inr a2)];exact ⟨rfl,(aa qN).trans (aD b hb)⟩)
      clear a1 a2
      go_wp2_with fail
      refine (aa HF).mono ?_
      rintro e w4 ⟨rfl,fj⟩
      rw[←hQ]
      exact ⟨rfl,aa HE w4 fj⟩
     ·have d2:decide (hi<(n))=false:=by simp;omega
      have HE:Hid (∀e w,PR lb b w3 ub (bz s) e w→(∃y:Int×Int,e=qv y.1 y.2∧R e w)∨(e=.returned (.tuple #[])∧R (.returned (.int .i64 (n))) w)):=fun e w hw=>by
       have hn:¬((n)<lo∨hi<(n)):=fun q=>q.elim a1 a2
       rcases hw.split with ⟨y,hr,rfl,ld⟩|⟨y,s2,hr,rfl,h4,ld⟩
       ·exact .inl ⟨y,rfl,aa HR _ _ (by rw[aa S1,if_neg hn,hr];exact ⟨rfl,(aa qN).trans ld⟩)⟩
       ·exact .inr ⟨rfl,aa HR _ _ (by rw[aa S1,if_neg hn,hr];exact ⟨rfl,h4,(aa qN).trans ld⟩)⟩
      clear a1 a2
      go_wp2_with fail
      refine (aa HN).mono ?_
      intro e w4 ie
      rcases aa HE e w4 ie with ⟨y,rfl,h5⟩|⟨rfl,h5⟩
      ·rw[←hQ]
       exact ⟨rfl,h5⟩
      ·have H5:=ab h5
       clear h5 ie HE
       go_wp2
       rw[←hQ]
       go_ret
       exact aa H5
  ·rw[if_neg h0] at iU HEq
   obtain ⟨rfl,cN⟩:=iU
   rw[←hQ]
   refine ⟨rfl,aa HR _ _ ?_⟩
   rw[aa HEq]
   exact ⟨rfl,(aa rY).trans cN⟩
noncomputable def cY (lo hi:Int) (mi:Bool) (s:ay):Except (Int×Int) (Int×ay):=match (if mi=true then bX 4 ⟨#[45]⟩ s else .ok (false,s)) with
 |.error e=>.error e
 |.ok (m,s1)=>iA lo hi m s1
theorem nT {V W:World}{lb b:Nat}{s:ay} (lo hi:Int) (mi:Bool) (hv:Env V W b) (h:Rd lb W b s):Calls Tryz.prog 176 #[.pointer (some ⟨b,0,none⟩),.agg #[.int .i64 lo,.int .i64 hi,.bool mi]] W (PR lb b W sK (cY lo hi mi s)):=by
 have eK:=(zE W.heap.size W).alloc (zD _) (.cells #[.int .i64 lo,.int .i64 hi,.bool mi] 175)
 have Ae:=h.up eK
 have dB:=h.lt
 have Zf:=hv.step (aD b eK)
 have qK:(W.alloc (.cells #[.int .i64 lo,.int .i64 hi,.bool mi] 175)).heap[W.heap.size]?=some (.cells #[.int .i64 lo,.int .i64 hi,.bool mi] 175 (0,0)):=aH _ _
 have HX:Hid (∀w,(W.alloc (.cells #[.int .i64 lo,.int .i64 hi,.bool mi] 175)).grownBy w (some b)→w.cell? ⟨W.heap.size,0,none⟩=some (.int .i64 lo)∧w.cell? ⟨W.heap.size,1,none⟩=some (.int .i64 hi)):=fun w hg=>by
  have hl:W.heap.size<(W.alloc (.cells #[.int .i64 lo,.int .i64 hi,.bool mi] 175)).heap.size:=by rw[zJ];omega
  have e:=hg.block W.heap.size hl (by simp;omega)
  exact ⟨by rw[World.cell?_of_block (a:=⟨W.heap.size,0,none⟩) e,cell_of_row _ _ _ _ _ _ qK];rfl,by rw[World.cell?_of_block (a:=⟨W.heap.size,1,none⟩) e,cell_of_row _ _ _ _ _ _ qK];rfl⟩
 have Hd:=ab Ae
 have Hv:=ab Zf
 have tV:=ab (aD b eK)
 have dV:W.heap.size≠b:=by omega
 clear Ae Zf eK qK h hv
 refine calls_of_wp Tryz.func176 M7 ?_
 obtain ⟨t,ht⟩:∃t,BH=t:=⟨_,rfl⟩
 rw[ht]
 obtain ⟨Q,hQ⟩:∃Q,bodyPost Tryz.prog Tryz.f176 (PR lb b W sK (cY lo hi mi s))=Q:=⟨_,rfl⟩
 rw[hQ]
 unfold M8
 dsimp only[Tryz.f176]
 simp only[List.size_toArray,List.length_cons,List.length_nil,Nat.reduceAdd,Nat.reduceSub,Array.replicate_succ,Array.replicate_zero,List.push_toArray,List.append_toArray,List.nil_append,List.cons_append]
 cases mi with
 |false =>
  go_wp2
  rw[←ht,←hQ]
  obtain ⟨x0,x1⟩:=aa HX _ (zI _ _)
  refine yu (aa Hv) (aa Hd) dV x0 x1 rfl ⟨rfl,rfl,rfl,trivial⟩ ?_
  intro e w hw
  have:=hw.pre (aa tV)
  unfold cY
  exact this
 |true =>
  go_wp2_with fail
  refine (gh (aa Hd) _).mono ?_
  intro e w1 hw
  rcases hw.split with ⟨x,hr,rfl,hg⟩|⟨m,s1,hr,rfl,h1,hg⟩
  ·rw[←hQ]
   refine ⟨rfl,?_⟩
   unfold cY
   rw[if_pos rfl,hr]
   exact ⟨rfl,(aa tV).trans hg⟩
  ·have H1:=ab h1
   have Hg:=ab hg
   have Hr:=ab hr
   clear hw h1 hg hr
   go_wp2
   rw[←ht,←hQ]
   obtain ⟨x0,x1⟩:=aa HX _ (aa Hg)
   refine yu ((aa Hv).step (aa Hg)) (aa H1) dV x0 x1 rfl ⟨rfl,rfl,rfl,trivial⟩ ?_
   intro e w hw
   have:=hw.pre ((aa tV).trans (aa Hg))
   unfold cY
   rw[if_pos rfl,aa Hr]
   exact this
noncomputable def dY (lo hi:Int) (mi:Bool) (s:ay):Except (Int×Int) (Int×ay):=match au ⟨#[61]⟩ s with
 |.error e=>.error e
 |.ok (_,s1)=>match cY lo hi mi s1 with
  |.error e=>.error e
  |.ok (n,s2)=>if aJ s2.here 4 ⟨#[91]⟩=true then .error (52,s2.here.spot) else match au ⟨#[59]⟩ s2 with
   |.error e=>.error e
   |.ok (_,s3)=>.ok (n,s3)
theorem rW {V W:World}{lb b:Nat}{s:ay} (lo hi:Int) (mi:Bool) (hv:Env V W b) (h:Rd lb W b s):Calls Tryz.prog 157 #[.pointer (some ⟨b,0,none⟩),.agg #[.int .i64 lo,.int .i64 hi,.bool mi]] W (PR lb b W sK (dY lo hi mi s)):=by
 have eK:=(zE W.heap.size W).alloc (zD _) (.cells #[.int .i64 lo,.int .i64 hi,.bool mi] 175)
 have Ae:=h.up eK
 have dB:=h.lt
 have Zf:=hv.step (aD b eK)
 have qK:(W.alloc (.cells #[.int .i64 lo,.int .i64 hi,.bool mi] 175)).heap[W.heap.size]?=some (.cells #[.int .i64 lo,.int .i64 hi,.bool mi] 175 (0,0)):=aH _ _
 have HX:Hid (∀w,(W.alloc (.cells #[.int .i64 lo,.int .i64 hi,.bool mi] 175)).grownBy w (some b)→w.cell? ⟨W.heap.size,0,none⟩=some (.int .i64 lo)∧w.cell? ⟨W.heap.size,1,none⟩=some (.int .i64 hi)∧w.cell? ⟨W.heap.size,2,none⟩=some (.bool mi)):=fun w hg=>by
  have hl:W.heap.size<(W.alloc (.cells #[.int .i64 lo,.int .i64 hi,.bool mi] 175)).heap.size:=by rw[zJ];omega
  have e:=hg.block W.heap.size hl (by simp;omega)
  exact ⟨by rw[World.cell?_of_block (a:=⟨W.heap.size,0,none⟩) e,cell_of_row _ _ _ _ _ _ qK];rfl,by rw[World.cell?_of_block (a:=⟨W.heap.size,1,none⟩) e,cell_of_row _ _ _ _ _ _ qK];rfl,by rw[World.cell?_of_block (a:=⟨W.heap.size,2,none⟩) e,cell_of_row _ _ _ _ _ _ qK];rfl⟩
 have Hd:=ab Ae
 have Hv:=ab Zf
 have tV:=ab (aD b eK)
 clear Ae Zf eK qK h hv dB
 go_enter Tryz.func157,Tryz.ntmps157
 go_wp2_with fail
 refine (dw (aa Hd) _).mono ?_
 intro e w1 hw
 rcases hw.split with ⟨x,hr,rfl,hg⟩|⟨_,s1,hr,rfl,h1,hg⟩
 ·refine ⟨rfl,?_⟩
  unfold dY
  rw[hr]
  exact ⟨rfl,(aa tV).trans hg⟩
 ·have H1:=ab h1
  have Hg:=ab hg
  have Hr:=ab hr
  obtain ⟨x0,x1,x2⟩:=aa HX _ hg
  clear hw h1 hg hr
  go_wp2_with fail
  refine (nT lo hi mi ((aa Hv).step (aa Hg)) (aa H1)).mono ?_
  intro e w2 hw
  rcases hw.split with ⟨x,hr,rfl,hg⟩|⟨n,s2,hr,rfl,h2,hg⟩
  ·refine ⟨rfl,?_⟩
   unfold dY
   rw[aa Hr]
   simp only
   rw[hr]
   exact ⟨rfl,((aa tV).trans (aa Hg)).trans hg⟩
  ·have H2:=ab h2
   have rY:=ab (((aa tV).trans (aa Hg)).trans hg)
   have Qw:=ab hr
   clear hw h2 hg hr x0 x1 x2
   unfold sK
   go_wp2_with fail
   refine (fC (aa H2)).mono ?_
   rintro e w3 ⟨rfl,qM⟩
   have H3:=ab ((aa H2).up qM)
   have qN:=ab ((aa rY).trans (aD b qM))
   have hI:Hid (∀w,Calls Tryz.prog 119 #[s2.here.val,.int .i64 4,.string ⟨#[91]⟩] w fun e w'=>e=.returned (.bool (aJ s2.here 4 ⟨#[91]⟩))∧Below w.heap.size w w'):=fun w=>sJ w s2.here 4 _
   have PY:Hid (∃p q r,s2.here.val=.agg #[p,q,r]):=⟨_,_,_,rfl⟩
   obtain ⟨p,q,r,Kt⟩:=aa PY
   rw[Kt] at hI ⊢
   clear qM PY Kt H2
   go_wp2_with fail
   refine (aa hI w3).mono ?_
   rintro e w4 ⟨rfl,fj⟩
   have H4:=ab ((aa H3).up fj)
   have Uf:=ab ((aa qN).trans (aD b fj))
   clear fj hI H3
   cases hp:aJ s2.here 4 ⟨#[91]⟩ with
   |true =>
    have Hp:=ab hp
    clear hp
    go_wp2_with fail
    refine (kS (aa H4)).mono ?_
    rintro e w5 ⟨rfl,lr⟩
    refine ⟨rfl,?_⟩
    unfold dY
    rw[aa Hr]
    simp only
    rw[aa Qw]
    simp only
    rw[if_pos (aa Hp)]
    exact ⟨rfl,(aa Uf).trans (aD b lr)⟩
   |false =>
    have Hp:=ab hp
    clear hp
    go_wp2_with fail
    refine (dw (aa H4) _).mono ?_
    intro e w5 hw
    have HEq:∀z,au ⟨#[59]⟩ s2=z→dY lo hi mi s=(match z with|.error e=>.error e|.ok (_,s3)=>.ok (n,s3)):=fun z hz=>by
     unfold dY
     rw[aa Hr]
     simp only
     rw[aa Qw]
     simp only
     rw[if_neg (by rw[aa Hp];simp),hz]
    rcases hw.split with ⟨x,hr,rfl,hg⟩|⟨_,s3,hr,rfl,h5,hg⟩
    ·refine ⟨rfl,?_⟩
     rw[HEq _ hr]
     exact ⟨rfl,(aa Uf).trans hg⟩
    ·have HE:Hid (PR lb b W sK (dY lo hi mi s) (.returned (.int .i64 n)) w5):=by
      show PR lb b W sK (dY lo hi mi s) (.returned (.int .i64 n)) w5
      rw[HEq _ hr]
      exact ⟨rfl,h5,(aa Uf).trans hg⟩
     clear hw hr h5 hg HEq
     go_wp2
     go_ret
     exact aa HE
theorem sizeBuilder:(Tryz.prog.info? 167).map (·.size)=some 2:=by kernel_rfl
theorem liesBuilder:liesAt Tryz.prog Tryz.prog.depth 167 (2 / Tryz.prog.cellsOf 167) 0 167 1=true:=by kernel_rfl
theorem AO:(Tryz.prog.info? 5).map (fun i=>(i.zero,i.size,i.bytes))=some (some (.int .u8 0),1,1):=by kernel_rfl
theorem za (b:Nat) (w:World) (h0:w.cell? ⟨b,0,none⟩=some (.pointer (some ⟨b,0,none⟩))):Calls Tryz.prog 168 #[.pointer (some ⟨b,0,none⟩)] w fun e w'=>e=.returned (.tuple #[])∧w'=w:=by
 obtain ⟨j,hj,_⟩:=Option.map_eq_some_iff.1 sizeBuilder
 go_enter Tryz.func168,Tryz.ntmps168
 go_wp2
 rw[Lib.run_neq_ptr_same w _ Tryz.underlying165 hj]
 go_wp2
 go_end0
 exact ⟨rfl,rfl⟩
theorem uw (b:Nat) (w:World) (h0:w.cell? ⟨b,0,none⟩=some (.pointer none)) (mD:w.shape? b=some (167,2)) (XE:w.frozen? ⟨b,0,none⟩=false) :
  Calls Tryz.prog 168 #[.pointer (some ⟨b,0,none⟩)] w fun e w'=>e=.returned (.tuple #[])∧w'=w.setCell ⟨b,0,none⟩ (.pointer (some ⟨b,0,none⟩)):=by
 obtain ⟨j,hj,hjs⟩:=Option.map_eq_some_iff.1 sizeBuilder
 go_enter Tryz.func168,Tryz.ntmps168
 go_wp2
 rw[Lib.run_to_unsafe w ⟨b,0,none⟩ Tryz.underlying165 Tryz.underlying196 hj (by rw[hjs];decide) mD (Nat.zero_lt_succ 1)]
 simp only[Result.andThen]
 rw[Oper.upon_value]
 go_wp2
 rw[run_callFunc_extern Tryz.func181 (by kernel_rfl) (by kernel_rfl) (by kernel_rfl) (e:=Extern.AbiNoEscape.same) (by kernel_rfl)]
 rw[Lib.run_noEscape]
 simp only[Result.andThen]
 rw[Oper.upon_value]
 go_wp2
 rw[Lib.run_from_unsafe w ⟨b,0,none⟩ Tryz.underlying196 Tryz.underlying165 hj mD liesBuilder]
 simp only[Result.andThen]
 rw[Oper.upon_value]
 go_wp2
 go_end0
 exact ⟨rfl,rfl⟩
theorem pQ (B b:Nat) (bs:List Value) (w:World) (h:Lib.IsBuilder 167 5 B b bs w) :
  Calls Tryz.prog 168 #[.pointer (some ⟨b,0,none⟩)] w fun e w'=>e=.returned (.tuple #[])∧(Lib.BuilderAt 167 5 B b (.pointer (some ⟨b,0,none⟩)) bs w'∧Below B w w'):=by
 rcases h with h|h
 ·refine (uw b w h.cell0 h.shape h.frozen0).mono ?_
  rintro e w' ⟨rfl,rfl⟩
  exact ⟨rfl,h.used _,(zE B w).setCell (p:=⟨b,0,none⟩) h.1 _⟩
 ·refine (za b w h.cell0).mono ?_
  rintro e w' ⟨rfl,rfl⟩
  exact ⟨rfl,h,zE B _⟩
theorem Ir {B b:Nat}{bs bs':List Value}{w1 w2:World}{v v':Value} (hB:B≤b) (qK:w1.heap[b]?=some (.cells #[.pointer (some ⟨b,0,none⟩),v] 167 (0,0))) (oq:w1.ownsRow B 5 1 v bs.length bs) (dV:v.ownBlock≠some b) (hg:w1.grownBy w2 v.ownBlock) (ho:w2.ownsRow B 5 1 v' bs'.length bs') :
  (w2.cell? ⟨b,0,none⟩=some (.pointer (some ⟨b,0,none⟩))∧w2.cell? ⟨b,1,none⟩=some v∧w2.frozen? ⟨b,1,none⟩=false)∧Lib.BuilderAt 167 5 B b (.pointer (some ⟨b,0,none⟩)) bs' (w2.setCell ⟨b,1,none⟩ v')∧Below B w1 (w2.setCell ⟨b,1,none⟩ v'):=by
 have hl:b<w1.heap.size:=(zA qK).1
 have br:=(hg.block b hl (fun e=>dV e.symm)).trans qK
 obtain ⟨k1,k2⟩:=aC (j:=1) br v'
 have hn:v'.ownBlock≠some b:=fun e=>by
  rcases ho.2 with ⟨rfl,_⟩|⟨g,cap,cur,rfl,_,h2,_⟩
  ·cases e
  ·obtain rfl:g=b:=by simpa[Value.ownBlock] using e
   rw[h2] at br
   simp at br
 have ji:Below B w1 w2:=⟨hg.os,hg.tape,hg.output,hg.size,fun k hk=>hg.block k (by omega) (fun e=>by have:=(oq.lt k e.symm).1;omega)⟩
 refine ⟨⟨?_,?_,by simp[World.frozen?,br]⟩,⟨hB,v',k1,ho.kept k2 ?_,hn⟩,ji.trans ⟨k2.os,k2.tape,k2.output,k2.size,fun k hk=>k2.block k (by have:=hg.size;omega) (by simp;omega)⟩⟩
 ·rw[cell_of_row _ _ _ _ _ _ br];rfl
 ·rw[cell_of_row _ _ _ _ _ _ br];rfl
 ·cases e:v'.ownBlock with
  |none=>exact .inl rfl
  |some k=>exact .inr (fun q=>hn (e.trans q))
theorem Ik {B n:Nat}{w:World}{v:Value}{xs:List Value} (h:w.ownsRow B 5 1 v n xs):∃a l c,v=.slice a l c:=by
 rcases h.2 with ⟨rfl,_⟩|⟨g,cap,_,rfl,_⟩
 ·exact ⟨_,_,_,rfl⟩
 ·exact ⟨_,_,_,rfl⟩
theorem pC (B b:Nat) (bs:List Value) (c:Int) (w:World) (h:Lib.IsBuilder 167 5 B b bs w) (hlen:bs.length+1≤140737488355328) (hBw:B≤w.heap.size) :
  Calls Tryz.prog 139 #[.pointer (some ⟨b,0,none⟩),.int .u8 c] w fun e w'=>e=.returned .nilIface∧(Lib.BuilderAt 167 5 B b (.pointer (some ⟨b,0,none⟩)) (bs++[.int .u8 c]) w'∧Below B w w'):=by
 obtain ⟨i0,hi,zy,zx,jK⟩:=info_parts AO
 have hc:=ab (pQ B b bs w h)
 clear h
 go_enter Tryz.func139,Tryz.ntmps139
 go_wp2_with fail
 refine (aa hc).mono ?_
 rintro e w1 ⟨rfl,⟨hB,v,qK,oq,dV⟩,bQ⟩
 have s1:=bQ.size
 have c1:w1.cell? ⟨b,1,none⟩=some v:=by rw[cell_of_row _ _ _ _ _ _ qK];rfl
 have ko:=ab bQ
 have Cz:=ab oq
 have Hbk:=ab qK
 have Uc:=ab dV
 clear bQ oq qK dV hc
 go_wp2_with (at_builtin;refine wpList_append_own_at _ rfl _ _ 94 rfl B 5 i0 (.int .u8 0) 1 1 Tryz.underlying94 hi zy zx jK rfl (by decide) _ _ _ rfl ((aa Cz).alloc _) ⟨w1.heap.size,0,none⟩ 1 1 [.int .u8 c] rfl rfl (cell_one_new _ _ _) (by simp[Value.oneCell']) (by unfold maxLen;omega) (by omega) (by rw[zJ];omega) ?_;intro v' w2 ho hg _ _;obtain ⟨⟨d0,d1,f1⟩,Of⟩:=Ir (bs':=bs++[.int .u8 c]) hB (aa Hbk) (aa Cz) (aa Uc) ((World.grownBy_alloc w1 _ _).trans hg) (by rw[zK];exact ho);have PZ:=ab Of;obtain ⟨a',l',c',rfl⟩:=Ik ho;clear ho hg Of)
 go_ret
 exact ⟨rfl,(aa PZ).1,(aa ko).trans (aa PZ).2⟩
theorem nv (B b:Nat) (bs:List Value) (s:ByteArray) (w:World) (h:Lib.IsBuilder 167 5 B b bs w) (hlen:bs.length+s.size≤140737488355328) (hBw:B≤w.heap.size) :
  Calls Tryz.prog 140 #[.pointer (some ⟨b,0,none⟩),.string s] w fun e w'=>e=.returned (.tuple #[.int .i64 s.size,.nilIface])∧(Lib.BuilderAt 167 5 B b (.pointer (some ⟨b,0,none⟩)) (bs++Lib.strCells s) w'∧Below B w w'):=by
 obtain ⟨i0,hi,zy,zx,jK⟩:=info_parts AO
 have hc:=ab (pQ B b bs w h)
 clear h
 go_enter Tryz.func140,Tryz.ntmps140
 go_wp2_with fail
 refine (aa hc).mono ?_
 rintro e w1 ⟨rfl,⟨hB,v,qK,oq,dV⟩,bQ⟩
 have s1:=bQ.size
 have c1:w1.cell? ⟨b,1,none⟩=some v:=by rw[cell_of_row _ _ _ _ _ _ qK];rfl
 have ko:=ab bQ
 have Cz:=ab oq
 have Hbk:=ab qK
 have Uc:=ab dV
 clear bQ oq qK dV hc
 go_wp2_with (at_builtin;refine Lib.wpList_append_own_string _ rfl _ _ 94 9 rfl B 5 i0 Tryz.underlying94 Tryz.underlying9 hi zy zx jK _ _ _ rfl (aa Cz) s rfl (by unfold maxLen;omega) (by omega) (by omega) ?_;intro v' w2 ho hg _;obtain ⟨⟨d0,d1,f1⟩,Of⟩:=Ir (bs':=bs++Lib.strCells s) hB (aa Hbk) (aa Cz) (aa Uc) hg (by rw[zK,Lib.strCells_length];exact ho);have PZ:=ab Of;obtain ⟨a',l',c',rfl⟩:=Ik ho;clear ho hg Of)
 go_ret2
 exact ⟨rfl,(aa PZ).1,(aa ko).trans (aa PZ).2⟩
end Go.Proofs.YtjophoclfccmcaaGreatDoor

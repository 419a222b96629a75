import Derived.Test.YtmlphohdcejniaaGreatDoorM10
import Derived.Shelf.Strings.Builder1
set_option maxHeartbeats 4000000
set_option maxRecDepth 100000
namespace Go.Proofs.YtmlphohdcejniaaGreatDoor
open Go.RowKit
attribute [local go_sem ↓] Go.wp_at_zero Go.wp_at_succ
def Gh (tm:Array Value):List (Nat×Value)→Prop
 |[]=>True
 |p::r=>tm[p.1]?=some p.2∧Gh tm r
theorem Ar {tm:Array Value} (h:tm.size=41):∃u:Nat→Value,tm=#[u 0,u 1,u 2,u 3,u 4,u 5,u 6,u 7,u 8,u 9,u 10,u 11,u 12,u 13,u 14,u 15,u 16,u 17,u 18,u 19,u 20,u 21,u 22,u 23,u 24,u 25,u 26,u 27,u 28,u 29,u 30,u 31,u 32,u 33,u 34,u 35,u 36,u 37,u 38,u 39,u 40]:=by
 refine ⟨fun i=>tm.getD i undef,?_⟩
 have e:tm=((List.range 41).map fun i=>tm.getD i undef).toArray:=by
  apply Array.ext
  ·simp[h]
  ·intro i h1 h2
   simp[Array.getD,h1]
 exact e.trans rfl
noncomputable def iF (x:ByteArray):Int×Int:=if 65536<x.size then (0,2) else match wv (aG x) with
 |some u=>((u:Int),0)
 |none=>(0,41)
theorem KI {W:World} (h:fZ W) (x:ByteArray):Calls Tryz.prog 182 #[.string x] W fun e w=>e=.returned (.tuple #[.int .i64 (iF x).1,.int .i64 (iF x).2])∧Below W.heap.size W w:=by
 refine (DV h x).mono ?_
 rintro e w ⟨hb,n,c,rfl,hu⟩
 refine ⟨?_,hb⟩
 unfold iF
 rcases hu with ⟨h1,rfl,rfl⟩|⟨h1,⟨u,h2,rfl,rfl⟩|⟨h2,rfl,rfl⟩⟩
 ·rw[if_pos h1]
 ·rw[if_neg (by omega),h2]
 ·rw[if_neg (by omega),h2]
noncomputable def zX:Code:=match Tryz.f179.body with
 |some (.seq _ (.seq _ x))=>x
 |_=>.skip
noncomputable def KM (t:Code):Code:=match Tryz.f179.body with
 |some (.seq a (.seq b _))=>.seq a (.seq b t)
 |_=>.skip
theorem KL:Tryz.f179.body=some (KM zX):=rfl
noncomputable def mg (lo hi:Int) (m:Bool) (s:aI):Except (Int×Int) (Int×aI) :=
 if s.here.kind=2 then (if (iF s.here.text).2=0 then (if (if m=true then -(iF s.here.text).1 else (iF s.here.text).1)<lo∨hi<(if m=true then -(iF s.here.text).1 else (iF s.here.text).1) then .error (55,s.here.spot) else (match bE s with|.ok (_,s')=>.ok ((if m=true then -(iF s.here.text).1 else (iF s.here.text).1),s')|.error e=>.error e)) else .error ((iF s.here.text).2,s.here.spot)) else .error (cK s)
def qA (n:Int):Value:=.int .i64 n
theorem KH (x:ByteArray):0≤(iF x).1∧(iF x).1≤9223372036854775807:=by
 unfold iF
 split
 ·simp
 ·split
  ·next u h =>
   have:=A8 h
   simp only
   omega
  ·simp
theorem vC {V W:World}{lb b bx:Nat}{s:aI}{lo hi:Int}{m:Bool}{R:Ending→World→Prop} (hv:Env V W b) (h:Rd lb W b s) (yE:bx≠b) (x0:W.cell? ⟨bx,0,none⟩=some (.int .i64 lo)) (x1:W.cell? ⟨bx,1,none⟩=some (.int .i64 hi))
  {tm:Array Value} (bR:tm.size=41) (je:Gh tm [(0,.pointer (some ⟨b,0,none⟩)),(3,.pointer (some ⟨bx,0,none⟩)),(5,.bool m)]) (hR:∀e w,PR lb b W qA (mg lo hi m s) e w→R e w):zX.wp Tryz.prog (bodyPost Tryz.prog Tryz.f179 R) ⟨tm,[]⟩ W:=by
 have HR:=aj hR
 have hc:=aj (mR h 2)
 obtain ⟨u,rfl⟩:=Ar bR
 obtain ⟨e0,e3,e5,_⟩:=je
 replace e0:u 0=.pointer (some ⟨b,0,none⟩):=zC e0
 replace e3:u 3=.pointer (some ⟨bx,0,none⟩):=zC e3
 replace e5:u 5=.bool m:=zC e5
 rw[e0,e3,e5]
 have hlx:bx<W.heap.size:=World.block_lt_of_cell? W _ x0
 have HX:Hid (∀w,W.grownBy w (some b)→w.cell? ⟨bx,0,none⟩=some (.int .i64 lo)∧w.cell? ⟨bx,1,none⟩=some (.int .i64 hi)):=fun w hg =>
  ⟨(World.cell?_of_block (a:=⟨bx,0,none⟩) (hg.block bx hlx (by simpa using yE))).trans x0,(World.cell?_of_block (a:=⟨bx,1,none⟩) (hg.block bx hlx (by simpa using yE))).trans x1⟩
 have Hv:=aj hv
 have Hd:=aj h
 clear e0 e3 e5 bR hR x0 x1 hv
 obtain ⟨Q,hQ⟩:∃Q,bodyPost Tryz.prog Tryz.f179 R=Q:=⟨_,rfl⟩
 rw[hQ]
 unfold zX
 dsimp only[Tryz.f179]
 go_wp2_with fail
 refine (aa hc).mono ?_
 intro e w1 hw
 rcases hw.split with ⟨x,hr,rfl,hg⟩|⟨x,s1,hr,rfl,h1,hg⟩
 ·have hk:¬s.here.kind=2:=fun e=>by unfold dm at hr;rw[if_pos e] at hr;cases hr
  unfold dm at hr
  rw[if_neg hk] at hr
  obtain rfl:cK s=x:=Except.error.inj hr
  rw[←hQ]
  refine ⟨rfl,aa HR _ _ ?_⟩
  unfold mg
  rw[if_neg hk]
  exact ⟨rfl,hg⟩
 ·have hk:s.here.kind=2:=by
   apply Classical.byContradiction
   intro e
   unfold dm at hr
   rw[if_neg e] at hr
   cases hr
  unfold dm at hr
  rw[if_pos hk] at hr
  simp only[Except.ok.injEq,Prod.mk.injEq] at hr
  obtain ⟨rfl,rfl⟩:=hr
  have hp:=bP h.grown (by rw[hk];decide)
  have bW:=KI ((aa Hv).step hg).Pb s.here.text
  have mD:mg lo hi m s=(if (iF s.here.text).2=0 then (if (if m=true then -(iF s.here.text).1 else (iF s.here.text).1)<lo∨hi<(if m=true then -(iF s.here.text).1 else (iF s.here.text).1) then .error (55,s.here.spot) else (match bE s with|.ok (_,s')=>.ok ((if m=true then -(iF s.here.text).1 else (iF s.here.text).1),s')|.error e=>.error e)) else .error ((iF s.here.text).2,s.here.spot)):=by unfold mg;rw[if_pos hk]
  have dR:=KH s.here.text
  have HEq:=aj mD
  have H1:=aj h1
  have Hg:=aj hg
  have C3:=aj bW
  obtain ⟨x,hx⟩:∃x,s.here.text=x:=⟨_,rfl⟩
  rw[hx] at HEq C3 dR ⊢
  obtain ⟨⟨n,c⟩,hnc⟩:∃p,iF x=p:=⟨_,rfl⟩
  rw[hnc] at HEq C3 dR
  simp only at HEq C3 dR
  clear hw h1 hg hk hc h hx mD bW hnc
  go_wp2_with fail
  refine (aa C3).mono ?_
  rintro e w2 ⟨rfl,bH⟩
  have H2:=aj ((aa H1).up bH)
  have pT:=aj ((aa Hg).trans (aA b bH))
  clear bH C3 H1 Hg
  go_wp2_with fail
  refine (gI (aa H2) c).mono ?_
  intro e w3 ll
  by_cases h0:c=0
  ·rw[if_pos h0] at ll HEq
   obtain ⟨rfl,h3,eY⟩:=ll
   have H3:=aj h3
   have oN:=aj ((aa pT).trans eY)
   obtain ⟨x0,x1⟩:=aa HX w3 (aa oN)
   clear h3 eY H2 pT h0
   have HF:Hid (Calls Tryz.prog 90 #[.pointer (some ⟨b,0,none⟩),.int .i64 55] w3 fun e w=>e=oD 55 s.here.spot∧Below w3.heap.size w3 w):=lv (aa H3) 55
   have HN:Hid (Calls Tryz.prog 95 #[.pointer (some ⟨b,0,none⟩)] w3 (PR lb b w3 AZ (bE s))):=cY (aa H3) hp
   have YJ:∀k:Int,(if m=true then -n else n)=k→-9223372036854775808<k→k≤9223372036854775807→(PR lb b W qA (mg lo hi m s)=PR lb b W qA (if k<lo∨hi<k then .error (55,s.here.spot) else (match bE s with|.ok (_,s')=>.ok (k,s')|.error e=>.error e))):=fun k hk _ _=>by rw[aa HEq,hk]
   have Z5:=aj YJ
   clear YJ HEq
   cases m with
   |true =>
    have Xh:=aa Z5 (-n) (by simp) (by omega) (by omega)
    have Lt:IntKind.i64.wrap (-n)=-n:=by rw[IntKind.wrap_i64];omega
    have P6:=aj Xh
    clear Xh Z5
    by_cases a1:(-n)<lo
    ·have d1:decide ((-n)<lo)=true:=by simp[a1]
     have HE:Hid (∀w,Below w3.heap.size w3 w→R (oD 55 s.here.spot) w):=fun w hb=>aa HR _ _ (by rw[aa P6,if_pos (.inl a1)];exact ⟨rfl,(aa oN).trans (aA b hb)⟩)
     clear a1
     go_wp2_with fail
     refine (aa HF).mono ?_
     rintro e w4 ⟨rfl,eR⟩
     rw[←hQ]
     exact ⟨rfl,aa HE w4 eR⟩
    ·have d1:decide ((-n)<lo)=false:=by simp;omega
     by_cases a2:hi<(-n)
     ·have d2:decide (hi<(-n))=true:=by simp[a2]
      have HE:Hid (∀w,Below w3.heap.size w3 w→R (oD 55 s.here.spot) w):=fun w hb=>aa HR _ _ (by rw[aa P6,if_pos (.inr a2)];exact ⟨rfl,(aa oN).trans (aA b hb)⟩)
      clear a1 a2
      go_wp2_with fail
      refine (aa HF).mono ?_
      rintro e w4 ⟨rfl,eR⟩
      rw[←hQ]
      exact ⟨rfl,aa HE w4 eR⟩
     ·have d2:decide (hi<(-n))=false:=by simp;omega
      have HE:Hid (∀e w,PR lb b w3 AZ (bE s) e w→(∃y:Int×Int,e=oD y.1 y.2∧R e w)∨(e=.returned (.tuple #[])∧R (.returned (.int .i64 (-n))) w)):=fun e w hw=>by
       have hn:¬((-n)<lo∨hi<(-n)):=fun q=>q.elim a1 a2
       rcases hw.split with ⟨y,hr,rfl,qF⟩|⟨y,s2,hr,rfl,h4,qF⟩
       ·exact .inl ⟨y,rfl,aa HR _ _ (by rw[aa P6,if_neg hn,hr];exact ⟨rfl,(aa oN).trans qF⟩)⟩
       ·exact .inr ⟨rfl,aa HR _ _ (by rw[aa P6,if_neg hn,hr];exact ⟨rfl,h4,(aa oN).trans qF⟩)⟩
      clear a1 a2
      go_wp2_with fail
      refine (aa HN).mono ?_
      intro e w4 kL
      rcases aa HE e w4 kL with ⟨y,rfl,h5⟩|⟨rfl,h5⟩
      ·rw[←hQ]
       exact ⟨rfl,h5⟩
      ·have H5:=aj h5
       clear h5 kL HE
       go_wp2
       rw[←hQ]
       go_ret
       exact aa H5
   |false =>
    have Xh:=aa Z5 (n) (by simp) (by omega) (by omega)
    have P6:=aj Xh
    clear Xh Z5
    by_cases a1:(n)<lo
    ·have d1:decide ((n)<lo)=true:=by simp[a1]
     have HE:Hid (∀w,Below w3.heap.size w3 w→R (oD 55 s.here.spot) w):=fun w hb=>aa HR _ _ (by rw[aa P6,if_pos (.inl a1)];exact ⟨rfl,(aa oN).trans (aA b hb)⟩)
     clear a1
     go_wp2_with fail
     refine (aa HF).mono ?_
     rintro e w4 ⟨rfl,eR⟩
     rw[←hQ]
     exact ⟨rfl,aa HE w4 eR⟩
    ·have d1:decide ((n)<lo)=false:=by simp;omega
     by_cases a2:hi<(n)
     ·have d2:decide (hi<(n))=true:=by simp[a2]
      have HE:Hid (∀w,Below w3.heap.size w3 w→R (oD 55 s.here.spot) w):=fun w hb=>aa HR _ _ (by rw[aa P6,if_pos (.inr a2)];exact ⟨rfl,(aa oN).trans (aA b hb)⟩)
      clear a1 a2
      go_wp2_with fail
      refine (aa HF).mono ?_
      rintro e w4 ⟨rfl,eR⟩
      rw[←hQ]
      exact ⟨rfl,aa HE w4 eR⟩
     ·have d2:decide (hi<(n))=false:=by simp;omega
      have HE:Hid (∀e w,PR lb b w3 AZ (bE s) e w→(∃y:Int×Int,e=oD y.1 y.2∧R e w)∨(e=.returned (.tuple #[])∧R (.returned (.int .i64 (n))) w)):=fun e w hw=>by
       have hn:¬((n)<lo∨hi<(n)):=fun q=>q.elim a1 a2
       rcases hw.split with ⟨y,hr,rfl,qF⟩|⟨y,s2,hr,rfl,h4,qF⟩
       ·exact .inl ⟨y,rfl,aa HR _ _ (by rw[aa P6,if_neg hn,hr];exact ⟨rfl,(aa oN).trans qF⟩)⟩
       ·exact .inr ⟨rfl,aa HR _ _ (by rw[aa P6,if_neg hn,hr];exact ⟨rfl,h4,(aa oN).trans qF⟩)⟩
      clear a1 a2
      go_wp2_with fail
      refine (aa HN).mono ?_
      intro e w4 kL
      rcases aa HE e w4 kL with ⟨y,rfl,h5⟩|⟨rfl,h5⟩
      ·rw[←hQ]
       exact ⟨rfl,h5⟩
      ·have H5:=aj h5
       clear h5 kL HE
       go_wp2
       rw[←hQ]
       go_ret
       exact aa H5
  ·rw[if_neg h0] at ll HEq
   obtain ⟨rfl,eY⟩:=ll
   rw[←hQ]
   refine ⟨rfl,aa HR _ _ ?_⟩
   rw[aa HEq]
   exact ⟨rfl,(aa pT).trans eY⟩
noncomputable def fm (lo hi:Int) (mi:Bool) (s:aI):Except (Int×Int) (Int×aI):=match (if mi=true then cw 4 ⟨#[45]⟩ s else .ok (false,s)) with
 |.error e=>.error e
 |.ok (m,s1)=>mg lo hi m s1
theorem mK {V W:World}{lb b:Nat}{s:aI} (lo hi:Int) (mi:Bool) (hv:Env V W b) (h:Rd lb W b s):Calls Tryz.prog 179 #[.pointer (some ⟨b,0,none⟩),.agg #[.int .i64 lo,.int .i64 hi,.bool mi]] W (PR lb b W qA (fm lo hi mi s)):=by
 have dN:=(zE W.heap.size W).alloc (zD _) (.cells #[.int .i64 lo,.int .i64 hi,.bool mi] 196)
 have A1:=h.up dN
 have cc:=h.lt
 have V9:=hv.step (aA b dN)
 have bo:(W.alloc (.cells #[.int .i64 lo,.int .i64 hi,.bool mi] 196)).heap[W.heap.size]?=some (.cells #[.int .i64 lo,.int .i64 hi,.bool mi] 196 (0,0)):=aC _ _
 have HX:Hid (∀w,(W.alloc (.cells #[.int .i64 lo,.int .i64 hi,.bool mi] 196)).grownBy w (some b)→w.cell? ⟨W.heap.size,0,none⟩=some (.int .i64 lo)∧w.cell? ⟨W.heap.size,1,none⟩=some (.int .i64 hi)):=fun w hg=>by
  have hl:W.heap.size<(W.alloc (.cells #[.int .i64 lo,.int .i64 hi,.bool mi] 196)).heap.size:=by rw[zJ];omega
  have e:=hg.block W.heap.size hl (by simp;omega)
  exact ⟨by rw[World.cell?_of_block (a:=⟨W.heap.size,0,none⟩) e,cell_of_row _ _ _ _ _ _ bo];rfl,by rw[World.cell?_of_block (a:=⟨W.heap.size,1,none⟩) e,cell_of_row _ _ _ _ _ _ bo];rfl⟩
 have Hd:=aj A1
 have Hv:=aj V9
 have rJ:=aj (aA b dN)
 have eo:W.heap.size≠b:=by omega
 clear A1 V9 dN bo h hv
 refine calls_of_wp Tryz.func179 KL ?_
 obtain ⟨t,ht⟩:∃t,zX=t:=⟨_,rfl⟩
 rw[ht]
 obtain ⟨Q,hQ⟩:∃Q,bodyPost Tryz.prog Tryz.f179 (PR lb b W qA (fm lo hi mi s))=Q:=⟨_,rfl⟩
 rw[hQ]
 unfold KM
 dsimp only[Tryz.f179]
 simp only[List.size_toArray,List.length_cons,List.length_nil,Nat.reduceAdd,Nat.reduceSub,Array.replicate_succ,Array.replicate_zero,List.push_toArray,List.append_toArray,List.nil_append,List.cons_append]
 cases mi with
 |false =>
  go_wp2
  rw[←ht,←hQ]
  obtain ⟨x0,x1⟩:=aa HX _ (zI _ _)
  refine vC (aa Hv) (aa Hd) eo x0 x1 rfl ⟨rfl,rfl,rfl,trivial⟩ ?_
  intro e w hw
  have:=hw.pre (aa rJ)
  unfold fm
  exact this
 |true =>
  go_wp2_with fail
  refine (fO (aa Hd) _).mono ?_
  intro e w1 hw
  rcases hw.split with ⟨x,hr,rfl,hg⟩|⟨m,s1,hr,rfl,h1,hg⟩
  ·rw[←hQ]
   refine ⟨rfl,?_⟩
   unfold fm
   rw[if_pos rfl,hr]
   exact ⟨rfl,(aa rJ).trans hg⟩
  ·have H1:=aj h1
   have Hg:=aj hg
   have Hr:=aj hr
   clear hw h1 hg hr
   go_wp2
   rw[←ht,←hQ]
   obtain ⟨x0,x1⟩:=aa HX _ (aa Hg)
   refine vC ((aa Hv).step (aa Hg)) (aa H1) eo x0 x1 rfl ⟨rfl,rfl,rfl,trivial⟩ ?_
   intro e w hw
   have:=hw.pre ((aa rJ).trans (aa Hg))
   unfold fm
   rw[if_pos rfl,aa Hr]
   exact this
noncomputable def dh (lo hi:Int) (mi:Bool) (s:aI):Except (Int×Int) (Int×aI):=match aW ⟨#[61]⟩ s with
 |.error e=>.error e
 |.ok (_,s1)=>match fm lo hi mi s1 with
  |.error e=>.error e
  |.ok (n,s2)=>if dD s2.here 4 ⟨#[91]⟩=true then .error (52,s2.here.spot) else match aW ⟨#[59]⟩ s2 with
   |.error e=>.error e
   |.ok (_,s3)=>.ok (n,s3)
theorem pR {V W:World}{lb b:Nat}{s:aI} (lo hi:Int) (mi:Bool) (hv:Env V W b) (h:Rd lb W b s):Calls Tryz.prog 164 #[.pointer (some ⟨b,0,none⟩),.agg #[.int .i64 lo,.int .i64 hi,.bool mi]] W (PR lb b W qA (dh lo hi mi s)):=by
 have dN:=(zE W.heap.size W).alloc (zD _) (.cells #[.int .i64 lo,.int .i64 hi,.bool mi] 196)
 have A1:=h.up dN
 have cc:=h.lt
 have V9:=hv.step (aA b dN)
 have bo:(W.alloc (.cells #[.int .i64 lo,.int .i64 hi,.bool mi] 196)).heap[W.heap.size]?=some (.cells #[.int .i64 lo,.int .i64 hi,.bool mi] 196 (0,0)):=aC _ _
 have HX:Hid (∀w,(W.alloc (.cells #[.int .i64 lo,.int .i64 hi,.bool mi] 196)).grownBy w (some b)→w.cell? ⟨W.heap.size,0,none⟩=some (.int .i64 lo)∧w.cell? ⟨W.heap.size,1,none⟩=some (.int .i64 hi)∧w.cell? ⟨W.heap.size,2,none⟩=some (.bool mi)):=fun w hg=>by
  have hl:W.heap.size<(W.alloc (.cells #[.int .i64 lo,.int .i64 hi,.bool mi] 196)).heap.size:=by rw[zJ];omega
  have e:=hg.block W.heap.size hl (by simp;omega)
  exact ⟨by rw[World.cell?_of_block (a:=⟨W.heap.size,0,none⟩) e,cell_of_row _ _ _ _ _ _ bo];rfl,by rw[World.cell?_of_block (a:=⟨W.heap.size,1,none⟩) e,cell_of_row _ _ _ _ _ _ bo];rfl,by rw[World.cell?_of_block (a:=⟨W.heap.size,2,none⟩) e,cell_of_row _ _ _ _ _ _ bo];rfl⟩
 have Hd:=aj A1
 have Hv:=aj V9
 have rJ:=aj (aA b dN)
 clear A1 V9 dN bo h hv cc
 go_enter Tryz.func164,Tryz.ntmps164
 go_wp2_with fail
 refine (cQ (aa Hd) _).mono ?_
 intro e w1 hw
 rcases hw.split with ⟨x,hr,rfl,hg⟩|⟨_,s1,hr,rfl,h1,hg⟩
 ·refine ⟨rfl,?_⟩
  unfold dh
  rw[hr]
  exact ⟨rfl,(aa rJ).trans hg⟩
 ·have H1:=aj h1
  have Hg:=aj hg
  have Hr:=aj hr
  obtain ⟨x0,x1,x2⟩:=aa HX _ hg
  clear hw h1 hg hr
  go_wp2_with fail
  refine (mK lo hi mi ((aa Hv).step (aa Hg)) (aa H1)).mono ?_
  intro e w2 hw
  rcases hw.split with ⟨x,hr,rfl,hg⟩|⟨n,s2,hr,rfl,h2,hg⟩
  ·refine ⟨rfl,?_⟩
   unfold dh
   rw[aa Hr]
   simp only
   rw[hr]
   exact ⟨rfl,((aa rJ).trans (aa Hg)).trans hg⟩
  ·have H2:=aj h2
   have pT:=aj (((aa rJ).trans (aa Hg)).trans hg)
   have NT:=aj hr
   clear hw h2 hg hr x0 x1 x2
   unfold qA
   go_wp2_with fail
   refine (eV (aa H2)).mono ?_
   rintro e w3 ⟨rfl,mC⟩
   have H3:=aj ((aa H2).up mC)
   have oN:=aj ((aa pT).trans (aA b mC))
   have hI:Hid (∀w,Calls Tryz.prog 118 #[s2.here.val,.int .i64 4,.string ⟨#[91]⟩] w fun e w'=>e=.returned (.bool (dD s2.here 4 ⟨#[91]⟩))∧Below w.heap.size w w'):=fun w=>qz w s2.here 4 _
   have M8:Hid (∃p q r,s2.here.val=.agg #[p,q,r]):=⟨_,_,_,rfl⟩
   obtain ⟨p,q,r,De⟩:=aa M8
   rw[De] at hI ⊢
   clear mC M8 De H2
   go_wp2_with fail
   refine (aa hI w3).mono ?_
   rintro e w4 ⟨rfl,eR⟩
   have H4:=aj ((aa H3).up eR)
   have Q0:=aj ((aa oN).trans (aA b eR))
   clear eR hI H3
   cases hp:dD s2.here 4 ⟨#[91]⟩ with
   |true =>
    have Hp:=aj hp
    clear hp
    go_wp2_with fail
    refine (j3 (aa H4)).mono ?_
    rintro e w5 ⟨rfl,jf⟩
    refine ⟨rfl,?_⟩
    unfold dh
    rw[aa Hr]
    simp only
    rw[aa NT]
    simp only
    rw[if_pos (aa Hp)]
    exact ⟨rfl,(aa Q0).trans (aA b jf)⟩
   |false =>
    have Hp:=aj hp
    clear hp
    go_wp2_with fail
    refine (cQ (aa H4) _).mono ?_
    intro e w5 hw
    have HEq:∀z,aW ⟨#[59]⟩ s2=z→dh lo hi mi s=(match z with|.error e=>.error e|.ok (_,s3)=>.ok (n,s3)):=fun z hz=>by
     unfold dh
     rw[aa Hr]
     simp only
     rw[aa NT]
     simp only
     rw[if_neg (by rw[aa Hp];simp),hz]
    rcases hw.split with ⟨x,hr,rfl,hg⟩|⟨_,s3,hr,rfl,h5,hg⟩
    ·refine ⟨rfl,?_⟩
     rw[HEq _ hr]
     exact ⟨rfl,(aa Q0).trans hg⟩
    ·have HE:Hid (PR lb b W qA (dh lo hi mi s) (.returned (.int .i64 n)) w5):=by
      show PR lb b W qA (dh lo hi mi s) (.returned (.int .i64 n)) w5
      rw[HEq _ hr]
      exact ⟨rfl,h5,(aa Q0).trans hg⟩
     clear hw hr h5 hg HEq
     go_wp2
     go_ret
     exact aa HE
theorem sizeBuilder:(Tryz.prog.info? 188).map (·.size)=some 2:=by kernel_rfl
theorem liesBuilder:liesAt Tryz.prog Tryz.prog.depth 188 (2 / Tryz.prog.cellsOf 188) 0 188 1=true:=by kernel_rfl
theorem np:(Tryz.prog.info? 5).map (fun i=>(i.zero,i.size,i.bytes))=some (some (.int .u8 0),1,1):=by kernel_rfl
theorem wN (b:Nat) (w:World) (h0:w.cell? ⟨b,0,none⟩=some (.pointer (some ⟨b,0,none⟩))):Calls Tryz.prog 170 #[.pointer (some ⟨b,0,none⟩)] w fun e w'=>e=.returned (.tuple #[])∧w'=w:=by
 obtain ⟨j,hj,_⟩:=Option.map_eq_some_iff.1 sizeBuilder
 go_enter Tryz.func170,Tryz.ntmps170
 go_wp2
 rw[Lib.run_neq_ptr_same w _ Tryz.underlying186 hj]
 go_wp2
 go_end0
 exact ⟨rfl,rfl⟩
theorem rX (b:Nat) (w:World) (h0:w.cell? ⟨b,0,none⟩=some (.pointer none)) (OQ:w.shape? b=some (188,2)) (LB:w.frozen? ⟨b,0,none⟩=false) :
  Calls Tryz.prog 170 #[.pointer (some ⟨b,0,none⟩)] w fun e w'=>e=.returned (.tuple #[])∧w'=w.setCell ⟨b,0,none⟩ (.pointer (some ⟨b,0,none⟩)):=by
 obtain ⟨j,hj,OW⟩:=Option.map_eq_some_iff.1 sizeBuilder
 go_enter Tryz.func170,Tryz.ntmps170
 go_wp2
 rw[Lib.run_to_unsafe w ⟨b,0,none⟩ Tryz.underlying186 Tryz.underlying220 hj (by rw[OW];decide) OQ (Nat.zero_lt_succ 1)]
 simp only[Result.andThen]
 rw[Oper.upon_value]
 go_wp2
 rw[run_callFunc_extern Tryz.func180 (by kernel_rfl) (by kernel_rfl) (by kernel_rfl) (e:=Extern.AbiNoEscape.same) (by kernel_rfl)]
 rw[Lib.run_noEscape]
 simp only[Result.andThen]
 rw[Oper.upon_value]
 go_wp2
 rw[Lib.run_from_unsafe w ⟨b,0,none⟩ Tryz.underlying220 Tryz.underlying186 hj OQ liesBuilder]
 simp only[Result.andThen]
 rw[Oper.upon_value]
 go_wp2
 go_end0
 exact ⟨rfl,rfl⟩
theorem nX (B b:Nat) (bs:List Value) (w:World) (h:Lib.IsBuilder 188 5 B b bs w) :
  Calls Tryz.prog 170 #[.pointer (some ⟨b,0,none⟩)] w fun e w'=>e=.returned (.tuple #[])∧(Lib.BuilderAt 188 5 B b (.pointer (some ⟨b,0,none⟩)) bs w'∧Below B w w'):=by
 rcases h with h|h
 ·refine (rX b w h.cell0 h.shape h.frozen0).mono ?_
  rintro e w' ⟨rfl,rfl⟩
  exact ⟨rfl,h.used _,(zE B w).setCell (p:=⟨b,0,none⟩) h.1 _⟩
 ·refine (wN b w h.cell0).mono ?_
  rintro e w' ⟨rfl,rfl⟩
  exact ⟨rfl,h,zE B _⟩
theorem Fy {B b:Nat}{bs bs':List Value}{w1 w2:World}{v v':Value} (hB:B≤b) (bo:w1.heap[b]?=some (.cells #[.pointer (some ⟨b,0,none⟩),v] 188 (0,0))) (ln:w1.ownsRow B 5 1 v bs.length bs) (eo:v.ownBlock≠some b) (hg:w1.grownBy w2 v.ownBlock) (ho:w2.ownsRow B 5 1 v' bs'.length bs') :
  (w2.cell? ⟨b,0,none⟩=some (.pointer (some ⟨b,0,none⟩))∧w2.cell? ⟨b,1,none⟩=some v∧w2.frozen? ⟨b,1,none⟩=false)∧Lib.BuilderAt 188 5 B b (.pointer (some ⟨b,0,none⟩)) bs' (w2.setCell ⟨b,1,none⟩ v')∧Below B w1 (w2.setCell ⟨b,1,none⟩ v'):=by
 have hl:b<w1.heap.size:=(zA bo).1
 have bH:=(hg.block b hl (fun e=>eo e.symm)).trans bo
 obtain ⟨k1,k2⟩:=aJ (j:=1) bH v'
 have hn:v'.ownBlock≠some b:=fun e=>by
  rcases ho.2 with ⟨rfl,_⟩|⟨g,cap,cur,rfl,_,h2,_⟩
  ·cases e
  ·obtain rfl:g=b:=by simpa[Value.ownBlock] using e
   rw[h2] at bH
   simp at bH
 have dr:Below B w1 w2:=⟨hg.os,hg.tape,hg.output,hg.size,fun k hk=>hg.block k (by omega) (fun e=>by have:=(ln.lt k e.symm).1;omega)⟩
 refine ⟨⟨?_,?_,by simp[World.frozen?,bH]⟩,⟨hB,v',k1,ho.kept k2 ?_,hn⟩,dr.trans ⟨k2.os,k2.tape,k2.output,k2.size,fun k hk=>k2.block k (by have:=hg.size;omega) (by simp;omega)⟩⟩
 ·rw[cell_of_row _ _ _ _ _ _ bH];rfl
 ·rw[cell_of_row _ _ _ _ _ _ bH];rfl
 ·cases e:v'.ownBlock with
  |none=>exact .inl rfl
  |some k=>exact .inr (fun q=>hn (e.trans q))
theorem Fp {B n:Nat}{w:World}{v:Value}{xs:List Value} (h:w.ownsRow B 5 1 v n xs):∃a l c,v=.slice a l c:=by
 rcases h.2 with ⟨rfl,_⟩|⟨g,cap,_,rfl,_⟩
 ·exact ⟨_,_,_,rfl⟩
 ·exact ⟨_,_,_,rfl⟩
theorem nK (B b:Nat) (bs:List Value) (c:Int) (w:World) (h:Lib.IsBuilder 188 5 B b bs w) (hlen:bs.length+1≤140737488355328) (hBw:B≤w.heap.size) :
  Calls Tryz.prog 146 #[.pointer (some ⟨b,0,none⟩),.int .u8 c] w fun e w'=>e=.returned .nilIface∧(Lib.BuilderAt 188 5 B b (.pointer (some ⟨b,0,none⟩)) (bs++[.int .u8 c]) w'∧Below B w w'):=by
 obtain ⟨i0,hi,nD,nC,oK⟩:=info_parts np
 have hc:=aj (nX B b bs w h)
 clear h
 go_enter Tryz.func146,Tryz.ntmps146
 go_wp2_with fail
 refine (aa hc).mono ?_
 rintro e w1 ⟨rfl,⟨hB,v,bo,ln,eo⟩,bC⟩
 have s1:=bC.size
 have c1:w1.cell? ⟨b,1,none⟩=some v:=by rw[cell_of_row _ _ _ _ _ _ bo];rfl
 have jU:=aj bC
 have AT:=aj ln
 have Hbk:=aj bo
 have TU:=aj eo
 clear bC ln bo eo hc
 go_wp2_with (at_builtin;refine wpList_append_own_at _ rfl _ _ 54 rfl B 5 i0 (.int .u8 0) 1 1 Tryz.underlying54 hi nD nC oK rfl (by decide) _ _ _ rfl ((aa AT).alloc _) ⟨w1.heap.size,0,none⟩ 1 1 [.int .u8 c] rfl rfl (cell_one_new _ _ _) (by simp[Value.oneCell']) (by unfold maxLen;omega) (by omega) (by rw[zJ];omega) ?_;intro v' w2 ho hg _ _;obtain ⟨⟨d0,d1,f1⟩,Lo⟩:=Fy (bs':=bs++[.int .u8 c]) hB (aa Hbk) (aa AT) (aa TU) ((World.grownBy_alloc w1 _ _).trans hg) (by rw[zK];exact ho);have M9:=aj Lo;obtain ⟨a',l',c',rfl⟩:=Fp ho;clear ho hg Lo)
 go_ret
 exact ⟨rfl,(aa M9).1,(aa jU).trans (aa M9).2⟩
theorem me (B b:Nat) (bs:List Value) (s:ByteArray) (w:World) (h:Lib.IsBuilder 188 5 B b bs w) (hlen:bs.length+s.size≤140737488355328) (hBw:B≤w.heap.size) :
  Calls Tryz.prog 147 #[.pointer (some ⟨b,0,none⟩),.string s] w fun e w'=>e=.returned (.tuple #[.int .i64 s.size,.nilIface])∧(Lib.BuilderAt 188 5 B b (.pointer (some ⟨b,0,none⟩)) (bs++Lib.strCells s) w'∧Below B w w'):=by
 obtain ⟨i0,hi,nD,nC,oK⟩:=info_parts np
 have hc:=aj (nX B b bs w h)
 clear h
 go_enter Tryz.func147,Tryz.ntmps147
 go_wp2_with fail
 refine (aa hc).mono ?_
 rintro e w1 ⟨rfl,⟨hB,v,bo,ln,eo⟩,bC⟩
 have s1:=bC.size
 have c1:w1.cell? ⟨b,1,none⟩=some v:=by rw[cell_of_row _ _ _ _ _ _ bo];rfl
 have jU:=aj bC
 have AT:=aj ln
 have Hbk:=aj bo
 have TU:=aj eo
 clear bC ln bo eo hc
 go_wp2_with (at_builtin;refine Lib.wpList_append_own_string _ rfl _ _ 54 9 rfl B 5 i0 Tryz.underlying54 Tryz.underlying9 hi nD nC oK _ _ _ rfl (aa AT) s rfl (by unfold maxLen;omega) (by omega) (by omega) ?_;intro v' w2 ho hg _;obtain ⟨⟨d0,d1,f1⟩,Lo⟩:=Fy (bs':=bs++Lib.strCells s) hB (aa Hbk) (aa AT) (aa TU) hg (by rw[zK,Lib.strCells_length];exact ho);have M9:=aj Lo;obtain ⟨a',l',c',rfl⟩:=Fp ho;clear ho hg Lo)
 go_ret2
 exact ⟨rfl,(aa M9).1,(aa jU).trans (aa M9).2⟩
end Go.Proofs.YtmlphohdcejniaaGreatDoor

import Derived.Test.YtmlphohdcejniaaGreatDoorM10
import Derived.Shelf.Strings.Builder1
set_option maxHeartbeats 4000000
set_option maxRecDepth 100000
namespace Go.Proofs.YtmlphohdcejniaaGreatDoor
open Go.RowKit
attribute [local go_sem ↓] Go.wp_at_zero Go.wp_at_succ
def IH (tm:Array Value):List (Nat×Value)→Prop
 |[]=>True
 |p::r=>tm[p.1]?=some p.2∧IH tm r
theorem BU {tm:Array Value} (h:tm.size=41):∃u:Nat→Value,tm=#[u 0,u 1,u 2,u 3,u 4,u 5,u 6,u 7,u 8,u 9,u 10,u 11,u 12,u 13,u 14,u 15,u 16,u 17,u 18,u 19,u 20,u 21,u 22,u 23,u 24,u 25,u 26,u 27,u 28,u 29,u 30,u 31,u 32,u 33,u 34,u 35,u 36,u 37,u 38,u 39,u 40]:=by
 refine ⟨fun i=>tm.getD i undef,?_⟩
 have e:tm=((List.range 41).map fun i=>tm.getD i undef).toArray:=by
  apply Array.ext
  ·simp[h]
  ·intro i h1 h2
   simp[Array.getD,h1]
 exact e.trans rfl
noncomputable def jh (x:ByteArray):Int×Int:=if 65536<x.size then (0,2) else match wv (aH x) with
 |some u=>((u:Int),0)
 |none=>(0,41)
theorem Mj {W:World} (h:gM W) (x:ByteArray):Calls Tryz.prog 182 #[.string x] W fun e w=>e=.returned (.tuple #[.int .i64 (jh x).1,.int .i64 (jh x).2])∧Below W.heap.size W w:=by
 refine (Fv h x).mono ?_
 rintro e w ⟨hb,n,c,rfl,hu⟩
 refine ⟨?_,hb⟩
 unfold jh
 rcases hu with ⟨h1,rfl,rfl⟩|⟨h1,⟨u,h2,rfl,rfl⟩|⟨h2,rfl,rfl⟩⟩
 ·rw[if_pos h1]
 ·rw[if_neg (by omega),h2]
 ·rw[if_neg (by omega),h2]
noncomputable def Bu:Code:=match Tryz.f179.body with
 |some (.seq _ (.seq _ x))=>x
 |_=>.skip
noncomputable def Mo (t:Code):Code:=match Tryz.f179.body with
 |some (.seq a (.seq b _))=>.seq a (.seq b t)
 |_=>.skip
theorem Mn:Tryz.f179.body=some (Mo Bu):=rfl
noncomputable def lh (lo hi:Int) (m:Bool) (s:aD):Except (Int×Int) (Int×aD) :=
 if s.here.kind=2 then (if (jh s.here.text).2=0 then (if (if m=true then -(jh s.here.text).1 else (jh s.here.text).1)<lo∨hi<(if m=true then -(jh s.here.text).1 else (jh s.here.text).1) then .error (55,s.here.spot) else (match bE s with|.ok (_,s')=>.ok ((if m=true then -(jh s.here.text).1 else (jh s.here.text).1),s')|.error e=>.error e)) else .error ((jh s.here.text).2,s.here.spot)) else .error (cH s)
def rQ (n:Int):Value:=.int .i64 n
theorem Mh (x:ByteArray):0≤(jh x).1∧(jh x).1≤9223372036854775807:=by
 unfold jh
 split
 ·simp
 ·split
  ·next u h =>
   have:=CF h
   simp only
   omega
  ·simp
theorem xh {V W:World}{lb b bx:Nat}{s:aD}{lo hi:Int}{m:Bool}{R:Ending→World→Prop} (hv:Env V W b) (h:Rd lb W b s) (At:bx≠b) (x0:W.cell? ⟨bx,0,none⟩=some (.int .i64 lo)) (x1:W.cell? ⟨bx,1,none⟩=some (.int .i64 hi))
  {tm:Array Value} (bU:tm.size=41) (jD:IH tm [(0,.pointer (some ⟨b,0,none⟩)),(3,.pointer (some ⟨bx,0,none⟩)),(5,.bool m)]) (hR:∀e w,PR lb b W rQ (lh lo hi m s) e w→R e w):Bu.wp Tryz.prog (bodyPost Tryz.prog Tryz.f179 R) ⟨tm,[]⟩ W:=by
 have HR:=aj hR
 have hc:=aj (nJ h 2)
 obtain ⟨u,rfl⟩:=BU bU
 obtain ⟨e0,e3,e5,_⟩:=jD
 replace e0:u 0=.pointer (some ⟨b,0,none⟩):=zC e0
 replace e3:u 3=.pointer (some ⟨bx,0,none⟩):=zC e3
 replace e5:u 5=.bool m:=zC e5
 rw[e0,e3,e5]
 have hlx:bx<W.heap.size:=World.block_lt_of_cell? W _ x0
 have HX:Hid (∀w,W.grownBy w (some b)→w.cell? ⟨bx,0,none⟩=some (.int .i64 lo)∧w.cell? ⟨bx,1,none⟩=some (.int .i64 hi)):=fun w hg =>
  ⟨(World.cell?_of_block (a:=⟨bx,0,none⟩) (hg.block bx hlx (by simpa using At))).trans x0,(World.cell?_of_block (a:=⟨bx,1,none⟩) (hg.block bx hlx (by simpa using At))).trans x1⟩
 have Hv:=aj hv
 have Hd:=aj h
 clear e0 e3 e5 bU hR x0 x1 hv
 obtain ⟨Q,hQ⟩:∃Q,bodyPost Tryz.prog Tryz.f179 R=Q:=⟨_,rfl⟩
 rw[hQ]
 unfold Bu
 dsimp only[Tryz.f179]
 go_wp2_with fail
 refine (aa hc).mono ?_
 intro e w1 hw
 rcases hw.split with ⟨x,hr,rfl,hg⟩|⟨x,s1,hr,rfl,h1,hg⟩
 ·have hk:¬s.here.kind=2:=fun e=>by unfold dE at hr;rw[if_pos e] at hr;cases hr
  unfold dE at hr
  rw[if_neg hk] at hr
  obtain rfl:cH s=x:=Except.error.inj hr
  rw[←hQ]
  refine ⟨rfl,aa HR _ _ ?_⟩
  unfold lh
  rw[if_neg hk]
  exact ⟨rfl,hg⟩
 ·have hk:s.here.kind=2:=by
   apply Classical.byContradiction
   intro e
   unfold dE at hr
   rw[if_neg e] at hr
   cases hr
  unfold dE at hr
  rw[if_pos hk] at hr
  simp only[Except.ok.injEq,Prod.mk.injEq] at hr
  obtain ⟨rfl,rfl⟩:=hr
  have hp:=bS h.grown (by rw[hk];decide)
  have b9:=Mj ((aa Hv).step hg).Q8 s.here.text
  have nr:lh lo hi m s=(if (jh s.here.text).2=0 then (if (if m=true then -(jh s.here.text).1 else (jh s.here.text).1)<lo∨hi<(if m=true then -(jh s.here.text).1 else (jh s.here.text).1) then .error (55,s.here.spot) else (match bE s with|.ok (_,s')=>.ok ((if m=true then -(jh s.here.text).1 else (jh s.here.text).1),s')|.error e=>.error e)) else .error ((jh s.here.text).2,s.here.spot)):=by unfold lh;rw[if_pos hk]
  have du:=Mh s.here.text
  have HEq:=aj nr
  have H1:=aj h1
  have Hg:=aj hg
  have EC:=aj b9
  obtain ⟨x,hx⟩:∃x,s.here.text=x:=⟨_,rfl⟩
  rw[hx] at HEq EC du ⊢
  obtain ⟨⟨n,c⟩,hnc⟩:∃p,jh x=p:=⟨_,rfl⟩
  rw[hnc] at HEq EC du
  simp only at HEq EC du
  clear hw h1 hg hk hc h hx nr b9 hnc
  go_wp2_with fail
  refine (aa EC).mono ?_
  rintro e w2 ⟨rfl,bJ⟩
  have H2:=aj ((aa H1).up bJ)
  have qS:=aj ((aa Hg).trans (aA b bJ))
  clear bJ EC H1 Hg
  go_wp2_with fail
  refine (ib (aa H2) c).mono ?_
  intro e w3 l8
  by_cases h0:c=0
  ·rw[if_pos h0] at l8 HEq
   obtain ⟨rfl,h3,fB⟩:=l8
   have H3:=aj h3
   have pU:=aj ((aa qS).trans fB)
   obtain ⟨x0,x1⟩:=aa HX w3 (aa pU)
   clear h3 fB H2 qS h0
   have HF:Hid (Calls Tryz.prog 90 #[.pointer (some ⟨b,0,none⟩),.int .i64 55] w3 fun e w=>e=pI 55 s.here.spot∧Below w3.heap.size w3 w):=mq (aa H3) 55
   have HN:Hid (Calls Tryz.prog 95 #[.pointer (some ⟨b,0,none⟩)] w3 (PR lb b w3 Cw (bE s))):=dr (aa H3) hp
   have aai:∀k:Int,(if m=true then -n else n)=k→-9223372036854775808<k→k≤9223372036854775807→(PR lb b W rQ (lh lo hi m s)=PR lb b W rQ (if k<lo∨hi<k then .error (55,s.here.spot) else (match bE s with|.ok (_,s')=>.ok (k,s')|.error e=>.error e))):=fun k hk _ _=>by rw[aa HEq,hk]
   have HGO:=aj aai
   clear aai HEq
   cases m with
   |true =>
    have Zf:=aa HGO (-n) (by simp) (by omega) (by omega)
    have Na:IntKind.i64.wrap (-n)=-n:=by rw[IntKind.wrap_i64];omega
    have Sd:=aj Zf
    clear Zf HGO
    by_cases a1:(-n)<lo
    ·have d1:decide ((-n)<lo)=true:=by simp[a1]
     have HE:Hid (∀w,Below w3.heap.size w3 w→R (pI 55 s.here.spot) w):=fun w hb=>aa HR _ _ (by rw[aa Sd,if_pos (.inl a1)];exact ⟨rfl,(aa pU).trans (aA b hb)⟩)
     clear a1
     go_wp2_with fail
     refine (aa HF).mono ?_
     rintro e w4 ⟨rfl,eV⟩
     rw[←hQ]
     exact ⟨rfl,aa HE w4 eV⟩
    ·have d1:decide ((-n)<lo)=false:=by simp;omega
     by_cases a2:hi<(-n)
     ·have d2:decide (hi<(-n))=true:=by simp[a2]
      have HE:Hid (∀w,Below w3.heap.size w3 w→R (pI 55 s.here.spot) w):=fun w hb=>aa HR _ _ (by rw[aa Sd,if_pos (.inr a2)];exact ⟨rfl,(aa pU).trans (aA b hb)⟩)
      clear a1 a2
      go_wp2_with fail
      refine (aa HF).mono ?_
      rintro e w4 ⟨rfl,eV⟩
      rw[←hQ]
      exact ⟨rfl,aa HE w4 eV⟩
     ·have d2:decide (hi<(-n))=false:=by simp;omega
      have HE:Hid (∀e w,PR lb b w3 Cw (bE s) e w→(∃y:Int×Int,e=pI y.1 y.2∧R e w)∨(e=.returned (.tuple #[])∧R (.returned (.int .i64 (-n))) w)):=fun e w hw=>by
       have hn:¬((-n)<lo∨hi<(-n)):=fun q=>q.elim a1 a2
       rcases hw.split with ⟨y,hr,rfl,rY⟩|⟨y,s2,hr,rfl,h4,rY⟩
       ·exact .inl ⟨y,rfl,aa HR _ _ (by rw[aa Sd,if_neg hn,hr];exact ⟨rfl,(aa pU).trans rY⟩)⟩
       ·exact .inr ⟨rfl,aa HR _ _ (by rw[aa Sd,if_neg hn,hr];exact ⟨rfl,h4,(aa pU).trans rY⟩)⟩
      clear a1 a2
      go_wp2_with fail
      refine (aa HN).mono ?_
      intro e w4 lG
      rcases aa HE e w4 lG with ⟨y,rfl,h5⟩|⟨rfl,h5⟩
      ·rw[←hQ]
       exact ⟨rfl,h5⟩
      ·have H5:=aj h5
       clear h5 lG HE
       go_wp2
       rw[←hQ]
       go_ret
       exact aa H5
   |false =>
    have Zf:=aa HGO (n) (by simp) (by omega) (by omega)
    have Sd:=aj Zf
    clear Zf HGO
    by_cases a1:(n)<lo
    ·have d1:decide ((n)<lo)=true:=by simp[a1]
     have HE:Hid (∀w,Below w3.heap.size w3 w→R (pI 55 s.here.spot) w):=fun w hb=>aa HR _ _ (by rw[aa Sd,if_pos (.inl a1)];exact ⟨rfl,(aa pU).trans (aA b hb)⟩)
     clear a1
     go_wp2_with fail
     refine (aa HF).mono ?_
     rintro e w4 ⟨rfl,eV⟩
     rw[←hQ]
     exact ⟨rfl,aa HE w4 eV⟩
    ·have d1:decide ((n)<lo)=false:=by simp;omega
     by_cases a2:hi<(n)
     ·have d2:decide (hi<(n))=true:=by simp[a2]
      have HE:Hid (∀w,Below w3.heap.size w3 w→R (pI 55 s.here.spot) w):=fun w hb=>aa HR _ _ (by rw[aa Sd,if_pos (.inr a2)];exact ⟨rfl,(aa pU).trans (aA b hb)⟩)
      clear a1 a2
      go_wp2_with fail
      refine (aa HF).mono ?_
      rintro e w4 ⟨rfl,eV⟩
      rw[←hQ]
      exact ⟨rfl,aa HE w4 eV⟩
     ·have d2:decide (hi<(n))=false:=by simp;omega
      have HE:Hid (∀e w,PR lb b w3 Cw (bE s) e w→(∃y:Int×Int,e=pI y.1 y.2∧R e w)∨(e=.returned (.tuple #[])∧R (.returned (.int .i64 (n))) w)):=fun e w hw=>by
       have hn:¬((n)<lo∨hi<(n)):=fun q=>q.elim a1 a2
       rcases hw.split with ⟨y,hr,rfl,rY⟩|⟨y,s2,hr,rfl,h4,rY⟩
       ·exact .inl ⟨y,rfl,aa HR _ _ (by rw[aa Sd,if_neg hn,hr];exact ⟨rfl,(aa pU).trans rY⟩)⟩
       ·exact .inr ⟨rfl,aa HR _ _ (by rw[aa Sd,if_neg hn,hr];exact ⟨rfl,h4,(aa pU).trans rY⟩)⟩
      clear a1 a2
      go_wp2_with fail
      refine (aa HN).mono ?_
      intro e w4 lG
      rcases aa HE e w4 lG with ⟨y,rfl,h5⟩|⟨rfl,h5⟩
      ·rw[←hQ]
       exact ⟨rfl,h5⟩
      ·have H5:=aj h5
       clear h5 lG HE
       go_wp2
       rw[←hQ]
       go_ret
       exact aa H5
  ·rw[if_neg h0] at l8 HEq
   obtain ⟨rfl,fB⟩:=l8
   rw[←hQ]
   refine ⟨rfl,aa HR _ _ ?_⟩
   rw[aa HEq]
   exact ⟨rfl,(aa qS).trans fB⟩
noncomputable def eh (lo hi:Int) (mi:Bool) (s:aD):Except (Int×Int) (Int×aD):=match (if mi=true then cx 4 ⟨#[45]⟩ s else .ok (false,s)) with
 |.error e=>.error e
 |.ok (m,s1)=>lh lo hi m s1
theorem nC {V W:World}{lb b:Nat}{s:aD} (lo hi:Int) (mi:Bool) (hv:Env V W b) (h:Rd lb W b s):Calls Tryz.prog 179 #[.pointer (some ⟨b,0,none⟩),.agg #[.int .i64 lo,.int .i64 hi,.bool mi]] W (PR lb b W rQ (eh lo hi mi s)):=by
 have dZ:=(zE W.heap.size W).alloc (zD _) (.cells #[.int .i64 lo,.int .i64 hi,.bool mi] 196)
 have Cz:=h.up dZ
 have cw:=h.lt
 have Yd:=hv.step (aA b dZ)
 have bo:(W.alloc (.cells #[.int .i64 lo,.int .i64 hi,.bool mi] 196)).heap[W.heap.size]?=some (.cells #[.int .i64 lo,.int .i64 hi,.bool mi] 196 (0,0)):=aC _ _
 have HX:Hid (∀w,(W.alloc (.cells #[.int .i64 lo,.int .i64 hi,.bool mi] 196)).grownBy w (some b)→w.cell? ⟨W.heap.size,0,none⟩=some (.int .i64 lo)∧w.cell? ⟨W.heap.size,1,none⟩=some (.int .i64 hi)):=fun w hg=>by
  have hl:W.heap.size<(W.alloc (.cells #[.int .i64 lo,.int .i64 hi,.bool mi] 196)).heap.size:=by rw[zJ];omega
  have e:=hg.block W.heap.size hl (by simp;omega)
  exact ⟨by rw[World.cell?_of_block (a:=⟨W.heap.size,0,none⟩) e,cell_of_row _ _ _ _ _ _ bo];rfl,by rw[World.cell?_of_block (a:=⟨W.heap.size,1,none⟩) e,cell_of_row _ _ _ _ _ _ bo];rfl⟩
 have Hd:=aj Cz
 have Hv:=aj Yd
 have sZ:=aj (aA b dZ)
 have eo:W.heap.size≠b:=by omega
 clear Cz Yd dZ bo h hv
 refine calls_of_wp Tryz.func179 Mn ?_
 obtain ⟨t,ht⟩:∃t,Bu=t:=⟨_,rfl⟩
 rw[ht]
 obtain ⟨Q,hQ⟩:∃Q,bodyPost Tryz.prog Tryz.f179 (PR lb b W rQ (eh lo hi mi s))=Q:=⟨_,rfl⟩
 rw[hQ]
 unfold Mo
 dsimp only[Tryz.f179]
 simp only[List.size_toArray,List.length_cons,List.length_nil,Nat.reduceAdd,Nat.reduceSub,Array.replicate_succ,Array.replicate_zero,List.push_toArray,List.append_toArray,List.nil_append,List.cons_append]
 cases mi with
 |false =>
  go_wp2
  rw[←ht,←hQ]
  obtain ⟨x0,x1⟩:=aa HX _ (zI _ _)
  refine xh (aa Hv) (aa Hd) eo x0 x1 rfl ⟨rfl,rfl,rfl,trivial⟩ ?_
  intro e w hw
  have:=hw.pre (aa sZ)
  unfold eh
  exact this
 |true =>
  go_wp2_with fail
  refine (gj (aa Hd) _).mono ?_
  intro e w1 hw
  rcases hw.split with ⟨x,hr,rfl,hg⟩|⟨m,s1,hr,rfl,h1,hg⟩
  ·rw[←hQ]
   refine ⟨rfl,?_⟩
   unfold eh
   rw[if_pos rfl,hr]
   exact ⟨rfl,(aa sZ).trans hg⟩
  ·have H1:=aj h1
   have Hg:=aj hg
   have Hr:=aj hr
   clear hw h1 hg hr
   go_wp2
   rw[←ht,←hQ]
   obtain ⟨x0,x1⟩:=aa HX _ (aa Hg)
   refine xh ((aa Hv).step (aa Hg)) (aa H1) eo x0 x1 rfl ⟨rfl,rfl,rfl,trivial⟩ ?_
   intro e w hw
   have:=hw.pre ((aa sZ).trans (aa Hg))
   unfold eh
   rw[if_pos rfl,aa Hr]
   exact this
noncomputable def cG (lo hi:Int) (mi:Bool) (s:aD):Except (Int×Int) (Int×aD):=match aV ⟨#[61]⟩ s with
 |.error e=>.error e
 |.ok (_,s1)=>match eh lo hi mi s1 with
  |.error e=>.error e
  |.ok (n,s2)=>if cZ s2.here 4 ⟨#[91]⟩=true then .error (52,s2.here.spot) else match aV ⟨#[59]⟩ s2 with
   |.error e=>.error e
   |.ok (_,s3)=>.ok (n,s3)
theorem qQ {V W:World}{lb b:Nat}{s:aD} (lo hi:Int) (mi:Bool) (hv:Env V W b) (h:Rd lb W b s):Calls Tryz.prog 164 #[.pointer (some ⟨b,0,none⟩),.agg #[.int .i64 lo,.int .i64 hi,.bool mi]] W (PR lb b W rQ (cG lo hi mi s)):=by
 have dZ:=(zE W.heap.size W).alloc (zD _) (.cells #[.int .i64 lo,.int .i64 hi,.bool mi] 196)
 have Cz:=h.up dZ
 have cw:=h.lt
 have Yd:=hv.step (aA b dZ)
 have bo:(W.alloc (.cells #[.int .i64 lo,.int .i64 hi,.bool mi] 196)).heap[W.heap.size]?=some (.cells #[.int .i64 lo,.int .i64 hi,.bool mi] 196 (0,0)):=aC _ _
 have HX:Hid (∀w,(W.alloc (.cells #[.int .i64 lo,.int .i64 hi,.bool mi] 196)).grownBy w (some b)→w.cell? ⟨W.heap.size,0,none⟩=some (.int .i64 lo)∧w.cell? ⟨W.heap.size,1,none⟩=some (.int .i64 hi)∧w.cell? ⟨W.heap.size,2,none⟩=some (.bool mi)):=fun w hg=>by
  have hl:W.heap.size<(W.alloc (.cells #[.int .i64 lo,.int .i64 hi,.bool mi] 196)).heap.size:=by rw[zJ];omega
  have e:=hg.block W.heap.size hl (by simp;omega)
  exact ⟨by rw[World.cell?_of_block (a:=⟨W.heap.size,0,none⟩) e,cell_of_row _ _ _ _ _ _ bo];rfl,by rw[World.cell?_of_block (a:=⟨W.heap.size,1,none⟩) e,cell_of_row _ _ _ _ _ _ bo];rfl,by rw[World.cell?_of_block (a:=⟨W.heap.size,2,none⟩) e,cell_of_row _ _ _ _ _ _ bo];rfl⟩
 have Hd:=aj Cz
 have Hv:=aj Yd
 have sZ:=aj (aA b dZ)
 clear Cz Yd dZ bo h hv cw
 go_enter Tryz.func164,Tryz.ntmps164
 go_wp2_with fail
 refine (de (aa Hd) _).mono ?_
 intro e w1 hw
 rcases hw.split with ⟨x,hr,rfl,hg⟩|⟨_,s1,hr,rfl,h1,hg⟩
 ·refine ⟨rfl,?_⟩
  unfold cG
  rw[hr]
  exact ⟨rfl,(aa sZ).trans hg⟩
 ·have H1:=aj h1
  have Hg:=aj hg
  have Hr:=aj hr
  obtain ⟨x0,x1,x2⟩:=aa HX _ hg
  clear hw h1 hg hr
  go_wp2_with fail
  refine (nC lo hi mi ((aa Hv).step (aa Hg)) (aa H1)).mono ?_
  intro e w2 hw
  rcases hw.split with ⟨x,hr,rfl,hg⟩|⟨n,s2,hr,rfl,h2,hg⟩
  ·refine ⟨rfl,?_⟩
   unfold cG
   rw[aa Hr]
   simp only
   rw[hr]
   exact ⟨rfl,((aa sZ).trans (aa Hg)).trans hg⟩
  ·have H2:=aj h2
   have qS:=aj (((aa sZ).trans (aa Hg)).trans hg)
   have PF:=aj hr
   clear hw h2 hg hr x0 x1 x2
   unfold rQ
   go_wp2_with fail
   refine (fu (aa H2)).mono ?_
   rintro e w3 ⟨rfl,mQ⟩
   have H3:=aj ((aa H2).up mQ)
   have pU:=aj ((aa qS).trans (aA b mQ))
   have hI:Hid (∀w,Calls Tryz.prog 118 #[s2.here.val,.int .i64 4,.string ⟨#[91]⟩] w fun e w'=>e=.returned (.bool (cZ s2.here 4 ⟨#[91]⟩))∧Below w.heap.size w w'):=fun w=>rP w s2.here 4 _
   have OX:Hid (∃p q r,s2.here.val=.agg #[p,q,r]):=⟨_,_,_,rfl⟩
   obtain ⟨p,q,r,EP⟩:=aa OX
   rw[EP] at hI ⊢
   clear mQ OX EP H2
   go_wp2_with fail
   refine (aa hI w3).mono ?_
   rintro e w4 ⟨rfl,eV⟩
   have H4:=aj ((aa H3).up eV)
   have Tb:=aj ((aa pU).trans (aA b eV))
   clear eV hI H3
   cases hp:cZ s2.here 4 ⟨#[91]⟩ with
   |true =>
    have Hp:=aj hp
    clear hp
    go_wp2_with fail
    refine (kE (aa H4)).mono ?_
    rintro e w5 ⟨rfl,kq⟩
    refine ⟨rfl,?_⟩
    unfold cG
    rw[aa Hr]
    simp only
    rw[aa PF]
    simp only
    rw[if_pos (aa Hp)]
    exact ⟨rfl,(aa Tb).trans (aA b kq)⟩
   |false =>
    have Hp:=aj hp
    clear hp
    go_wp2_with fail
    refine (de (aa H4) _).mono ?_
    intro e w5 hw
    have HEq:∀z,aV ⟨#[59]⟩ s2=z→cG lo hi mi s=(match z with|.error e=>.error e|.ok (_,s3)=>.ok (n,s3)):=fun z hz=>by
     unfold cG
     rw[aa Hr]
     simp only
     rw[aa PF]
     simp only
     rw[if_neg (by rw[aa Hp];simp),hz]
    rcases hw.split with ⟨x,hr,rfl,hg⟩|⟨_,s3,hr,rfl,h5,hg⟩
    ·refine ⟨rfl,?_⟩
     rw[HEq _ hr]
     exact ⟨rfl,(aa Tb).trans hg⟩
    ·have HE:Hid (PR lb b W rQ (cG lo hi mi s) (.returned (.int .i64 n)) w5):=by
      show PR lb b W rQ (cG lo hi mi s) (.returned (.int .i64 n)) w5
      rw[HEq _ hr]
      exact ⟨rfl,h5,(aa Tb).trans hg⟩
     clear hw hr h5 hg HEq
     go_wp2
     go_ret
     exact aa HE
theorem sizeBuilder:(Tryz.prog.info? 188).map (·.size)=some 2:=by kernel_rfl
theorem liesBuilder:liesAt Tryz.prog Tryz.prog.depth 188 (2 / Tryz.prog.cellsOf 188) 0 188 1=true:=by kernel_rfl
theorem oo:(Tryz.prog.info? 5).map (fun i=>(i.zero,i.size,i.bytes))=some (some (.int .u8 0),1,1):=by kernel_rfl
theorem yj (b:Nat) (w:World) (h0:w.cell? ⟨b,0,none⟩=some (.pointer (some ⟨b,0,none⟩))):Calls Tryz.prog 170 #[.pointer (some ⟨b,0,none⟩)] w fun e w'=>e=.returned (.tuple #[])∧w'=w:=by
 obtain ⟨j,hj,_⟩:=Option.map_eq_some_iff.1 sizeBuilder
 go_enter Tryz.func170,Tryz.ntmps170
 go_wp2
 rw[Lib.run_neq_ptr_same w _ Tryz.underlying186 hj]
 go_wp2
 go_end0
 exact ⟨rfl,rfl⟩
theorem tw (b:Nat) (w:World) (h0:w.cell? ⟨b,0,none⟩=some (.pointer none)) (QI:w.shape? b=some (188,2)) (Nk:w.frozen? ⟨b,0,none⟩=false) :
  Calls Tryz.prog 170 #[.pointer (some ⟨b,0,none⟩)] w fun e w'=>e=.returned (.tuple #[])∧w'=w.setCell ⟨b,0,none⟩ (.pointer (some ⟨b,0,none⟩)):=by
 obtain ⟨j,hj,QQ⟩:=Option.map_eq_some_iff.1 sizeBuilder
 go_enter Tryz.func170,Tryz.ntmps170
 go_wp2
 rw[Lib.run_to_unsafe w ⟨b,0,none⟩ Tryz.underlying186 Tryz.underlying220 hj (by rw[QQ];decide) QI (Nat.zero_lt_succ 1)]
 simp only[Result.andThen]
 rw[Oper.upon_value]
 go_wp2
 rw[run_callFunc_extern Tryz.func180 (by kernel_rfl) (by kernel_rfl) (by kernel_rfl) (e:=Extern.AbiNoEscape.same) (by kernel_rfl)]
 rw[Lib.run_noEscape]
 simp only[Result.andThen]
 rw[Oper.upon_value]
 go_wp2
 rw[Lib.run_from_unsafe w ⟨b,0,none⟩ Tryz.underlying220 Tryz.underlying186 hj QI liesBuilder]
 simp only[Result.andThen]
 rw[Oper.upon_value]
 go_wp2
 go_end0
 exact ⟨rfl,rfl⟩
theorem pd (B b:Nat) (bs:List Value) (w:World) (h:Lib.IsBuilder 188 5 B b bs w) :
  Calls Tryz.prog 170 #[.pointer (some ⟨b,0,none⟩)] w fun e w'=>e=.returned (.tuple #[])∧(Lib.BuilderAt 188 5 B b (.pointer (some ⟨b,0,none⟩)) bs w'∧Below B w w'):=by
 rcases h with h|h
 ·refine (tw b w h.cell0 h.shape h.frozen0).mono ?_
  rintro e w' ⟨rfl,rfl⟩
  exact ⟨rfl,h.used _,(zE B w).setCell (p:=⟨b,0,none⟩) h.1 _⟩
 ·refine (yj b w h.cell0).mono ?_
  rintro e w' ⟨rfl,rfl⟩
  exact ⟨rfl,h,zE B _⟩
theorem G4 {B b:Nat}{bs bs':List Value}{w1 w2:World}{v v':Value} (hB:B≤b) (bo:w1.heap[b]?=some (.cells #[.pointer (some ⟨b,0,none⟩),v] 188 (0,0))) (l9:w1.ownsRow B 5 1 v bs.length bs) (eo:v.ownBlock≠some b) (hg:w1.grownBy w2 v.ownBlock) (ho:w2.ownsRow B 5 1 v' bs'.length bs') :
  (w2.cell? ⟨b,0,none⟩=some (.pointer (some ⟨b,0,none⟩))∧w2.cell? ⟨b,1,none⟩=some v∧w2.frozen? ⟨b,1,none⟩=false)∧Lib.BuilderAt 188 5 B b (.pointer (some ⟨b,0,none⟩)) bs' (w2.setCell ⟨b,1,none⟩ v')∧Below B w1 (w2.setCell ⟨b,1,none⟩ v'):=by
 have hl:b<w1.heap.size:=(zA bo).1
 have bJ:=(hg.block b hl (fun e=>eo e.symm)).trans bo
 obtain ⟨k1,k2⟩:=aJ (j:=1) bJ v'
 have hn:v'.ownBlock≠some b:=fun e=>by
  rcases ho.2 with ⟨rfl,_⟩|⟨g,cap,cur,rfl,_,h2,_⟩
  ·cases e
  ·obtain rfl:g=b:=by simpa[Value.ownBlock] using e
   rw[h2] at bJ
   simp at bJ
 have dI:Below B w1 w2:=⟨hg.os,hg.tape,hg.output,hg.size,fun k hk=>hg.block k (by omega) (fun e=>by have:=(l9.lt k e.symm).1;omega)⟩
 refine ⟨⟨?_,?_,by simp[World.frozen?,bJ]⟩,⟨hB,v',k1,ho.kept k2 ?_,hn⟩,dI.trans ⟨k2.os,k2.tape,k2.output,k2.size,fun k hk=>k2.block k (by have:=hg.size;omega) (by simp;omega)⟩⟩
 ·rw[cell_of_row _ _ _ _ _ _ bJ];rfl
 ·rw[cell_of_row _ _ _ _ _ _ bJ];rfl
 ·cases e:v'.ownBlock with
  |none=>exact .inl rfl
  |some k=>exact .inr (fun q=>hn (e.trans q))
theorem GW {B n:Nat}{w:World}{v:Value}{xs:List Value} (h:w.ownsRow B 5 1 v n xs):∃a l c,v=.slice a l c:=by
 rcases h.2 with ⟨rfl,_⟩|⟨g,cap,_,rfl,_⟩
 ·exact ⟨_,_,_,rfl⟩
 ·exact ⟨_,_,_,rfl⟩
theorem oP (B b:Nat) (bs:List Value) (c:Int) (w:World) (h:Lib.IsBuilder 188 5 B b bs w) (hlen:bs.length+1≤140737488355328) (hBw:B≤w.heap.size) :
  Calls Tryz.prog 146 #[.pointer (some ⟨b,0,none⟩),.int .u8 c] w fun e w'=>e=.returned .nilIface∧(Lib.BuilderAt 188 5 B b (.pointer (some ⟨b,0,none⟩)) (bs++[.int .u8 c]) w'∧Below B w w'):=by
 obtain ⟨i0,hi,oH,oG,pQ⟩:=info_parts oo
 have hc:=aj (pd B b bs w h)
 clear h
 go_enter Tryz.func146,Tryz.ntmps146
 go_wp2_with fail
 refine (aa hc).mono ?_
 rintro e w1 ⟨rfl,⟨hB,v,bo,l9,eo⟩,bF⟩
 have s1:=bF.size
 have c1:w1.cell? ⟨b,1,none⟩=some v:=by rw[cell_of_row _ _ _ _ _ _ bo];rfl
 have kv:=aj bF
 have Cp:=aj l9
 have Hbk:=aj bo
 have VV:=aj eo
 clear bF l9 bo eo hc
 go_wp2_with (at_builtin;refine wpList_append_own_at _ rfl _ _ 54 rfl B 5 i0 (.int .u8 0) 1 1 Tryz.underlying54 hi oH oG pQ rfl (by decide) _ _ _ rfl ((aa Cp).alloc _) ⟨w1.heap.size,0,none⟩ 1 1 [.int .u8 c] rfl rfl (cell_one_new _ _ _) (by simp[Value.oneCell']) (by unfold maxLen;omega) (by omega) (by rw[zJ];omega) ?_;intro v' w2 ho hg _ _;obtain ⟨⟨d0,d1,f1⟩,M7⟩:=G4 (bs':=bs++[.int .u8 c]) hB (aa Hbk) (aa Cp) (aa VV) ((World.grownBy_alloc w1 _ _).trans hg) (by rw[zK];exact ho);have OY:=aj M7;obtain ⟨a',l',c',rfl⟩:=GW ho;clear ho hg M7)
 go_ret
 exact ⟨rfl,(aa OY).1,(aa kv).trans (aa OY).2⟩
theorem mZ (B b:Nat) (bs:List Value) (s:ByteArray) (w:World) (h:Lib.IsBuilder 188 5 B b bs w) (hlen:bs.length+s.size≤140737488355328) (hBw:B≤w.heap.size) :
  Calls Tryz.prog 147 #[.pointer (some ⟨b,0,none⟩),.string s] w fun e w'=>e=.returned (.tuple #[.int .i64 s.size,.nilIface])∧(Lib.BuilderAt 188 5 B b (.pointer (some ⟨b,0,none⟩)) (bs++Lib.strCells s) w'∧Below B w w'):=by
 obtain ⟨i0,hi,oH,oG,pQ⟩:=info_parts oo
 have hc:=aj (pd B b bs w h)
 clear h
 go_enter Tryz.func147,Tryz.ntmps147
 go_wp2_with fail
 refine (aa hc).mono ?_
 rintro e w1 ⟨rfl,⟨hB,v,bo,l9,eo⟩,bF⟩
 have s1:=bF.size
 have c1:w1.cell? ⟨b,1,none⟩=some v:=by rw[cell_of_row _ _ _ _ _ _ bo];rfl
 have kv:=aj bF
 have Cp:=aj l9
 have Hbk:=aj bo
 have VV:=aj eo
 clear bF l9 bo eo hc
 go_wp2_with (at_builtin;refine Lib.wpList_append_own_string _ rfl _ _ 54 9 rfl B 5 i0 Tryz.underlying54 Tryz.underlying9 hi oH oG pQ _ _ _ rfl (aa Cp) s rfl (by unfold maxLen;omega) (by omega) (by omega) ?_;intro v' w2 ho hg _;obtain ⟨⟨d0,d1,f1⟩,M7⟩:=G4 (bs':=bs++Lib.strCells s) hB (aa Hbk) (aa Cp) (aa VV) hg (by rw[zK,Lib.strCells_length];exact ho);have OY:=aj M7;obtain ⟨a',l',c',rfl⟩:=GW ho;clear ho hg M7)
 go_ret2
 exact ⟨rfl,(aa OY).1,(aa kv).trans (aa OY).2⟩
end Go.Proofs.YtmlphohdcejniaaGreatDoor

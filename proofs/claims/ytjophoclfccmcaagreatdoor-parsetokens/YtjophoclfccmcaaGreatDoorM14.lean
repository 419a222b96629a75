import Derived.Test.YtjophoclfccmcaaGreatDoorM13
set_option maxHeartbeats 4000000
set_option maxRecDepth 100000
namespace Go.Proofs
open Go.Shelf
def Tryz.mC:Go.Shelf.Ren:=⟨fun|169=>142|n=>n,fun|70=>165|9=>9|0=>0|72=>167|37=>94|127=>125|3=>3|5=>5|n=>n,fun|n=>n⟩
theorem Tryz.BO:Go.Proofs.Lays.n169 Tryz.prog Tryz.mC:={
 mixed:=by kernel_rfl
 f169:=Tryz.func142.trans (congrArg some (by kernel_rfl))
 t0:=Tryz.underlying0
 a0:=Tryz.isAgg0
 z0:=Tryz.sizeOf0
 v0:=Tryz.zeroValue0
 t3:=Tryz.underlying3
 a3:=Tryz.isAgg3
 z3:=Tryz.sizeOf3
 v3:=Tryz.zeroValue3
 t9:=Tryz.underlying9
 a9:=Tryz.isAgg9
 z9:=Tryz.sizeOf9
 v9:=Tryz.zeroValue9
 t37:=Tryz.underlying94
 a37:=Tryz.isAgg94
 z37:=Tryz.sizeOf94
 v37:=Tryz.zeroValue94
 t70:=Tryz.underlying165
 a70:=Tryz.isAgg165
 z70:=Tryz.sizeOf165
 v70:=Tryz.zeroValue165
 t72:=Tryz.underlying167
 a72:=Tryz.isAgg167
 z72:=Tryz.sizeOf167
 v72:=Tryz.zeroValue167
 t127:=Tryz.underlying125
 a127:=Tryz.isAgg125
 z127:=Tryz.sizeOf125
 v127:=Tryz.zeroValue125 }
def Tryz.sH:Go.Shelf.Ren:=⟨fun|170=>141|n=>n,fun|70=>165|3=>3|0=>0|72=>167|37=>94|5=>5|n=>n,fun|n=>n⟩
theorem Tryz.BN:Go.Proofs.Lays.n170 Tryz.prog Tryz.sH:={
 mixed:=by kernel_rfl
 f170:=Tryz.func141.trans (congrArg some (by kernel_rfl))
 t0:=Tryz.underlying0
 a0:=Tryz.isAgg0
 z0:=Tryz.sizeOf0
 v0:=Tryz.zeroValue0
 t3:=Tryz.underlying3
 a3:=Tryz.isAgg3
 z3:=Tryz.sizeOf3
 v3:=Tryz.zeroValue3
 t37:=Tryz.underlying94
 a37:=Tryz.isAgg94
 z37:=Tryz.sizeOf94
 v37:=Tryz.zeroValue94
 t70:=Tryz.underlying165
 a70:=Tryz.isAgg165
 z70:=Tryz.sizeOf165
 v70:=Tryz.zeroValue165
 t72:=Tryz.underlying167
 a72:=Tryz.isAgg167
 z72:=Tryz.sizeOf167
 v72:=Tryz.zeroValue167 }
end Go.Proofs
namespace Go.Proofs.YtjophoclfccmcaaGreatDoor
open Go.RowKit
attribute [local go_sem ↓] Go.wp_at_zero Go.wp_at_succ
theorem IU {tm:Array Value} (h:tm.size=31):∃u:Nat→Value,tm=#[u 0,u 1,u 2,u 3,u 4,u 5,u 6,u 7,u 8,u 9,u 10,u 11,u 12,u 13,u 14,u 15,u 16,u 17,u 18,u 19,u 20,u 21,u 22,u 23,u 24,u 25,u 26,u 27,u 28,u 29,u 30]:=by
 refine ⟨fun i=>tm.getD i undef,?_⟩
 have e:tm=((List.range 31).map fun i=>tm.getD i undef).toArray:=by
  apply Array.ext
  ·simp[h]
  ·intro i h1 h2
   simp[Array.getD,h1]
 exact e.trans rfl
theorem Ey {bb b:Nat}{bs:List Value}{w w':World} (h:Lib.IsBuilder 167 5 bb bb bs w) (hg:w.grownBy w' (some b)) (hb:b<bb):Lib.IsBuilder 167 5 bb bb bs w':=by
 have go:∀p,Lib.BuilderAt 167 5 bb bb p bs w→Lib.BuilderAt 167 5 bb bb p bs w':=fun p h=>by
  have hl:=h.lt
  obtain ⟨h1,v,h2,h3,h4⟩:=h
  refine ⟨h1,v,(hg.block bb hl (by simp;omega)).trans h2,h3.kept hg ?_,h4⟩
  cases e:v.ownBlock with
  |none=>exact .inl rfl
  |some k =>
   refine .inr fun q=>?_
   have:=(h3.lt k e).1
   simp at q
   omega
 exact h.imp (go _) (go _)
theorem AX {W w w':World}{b lo:Nat} (h:W.grownBy w (some b)) (hb:Below lo w w') (hl:W.heap.size≤lo):W.grownBy w' (some b) :=
 ⟨hb.os.trans h.os,hb.tape.trans h.tape,hb.output.trans h.output,Nat.le_trans h.size hb.size,fun k hk dV=>(hb.block k (by omega)).trans (h.block k hk dV)⟩
theorem gL {P:Program}{c:Code}{Q:Exit→Act→World→Prop} (J:Nat→Act→World→Prop) (round:∀n a w,J n a w→c.wp P (Exit.then (fun a' w'=>∃m,n=m+1∧J m a' w') Q) a w) (n:Nat) (a:Act) (w:World) (h:J n a w):(Code.loop c).wp P Q a w:=by
 refine wp_loop_rounds (n+1) ?_
 induction n generalizing a w with
 |zero =>
  refine Code.wp_mono (fun e a' w' q=>?_) (round 0 a w h)
  cases e<;>first|exact q|(obtain ⟨m,hm,_⟩:=q;omega)
 |succ n ih =>
  refine Code.wp_mono (fun e a' w' q=>?_) (round (n+1) a w h)
  cases e<;>first|exact q|(obtain ⟨m,hm,hj⟩:=q;obtain rfl:n=m:=(by omega);exact ih a' w' hj)
noncomputable def dz:Nat→List UInt8→ay→Except (Int×Int) (List UInt8×ay)
 |0,_,s=>.error (0,s.here.spot)
 |f+1,acc,s=>match bX 4 ⟨#[46]⟩ s with
  |.error e=>.error e
  |.ok (false,s1)=>.ok (acc,s1)
  |.ok (true,s1)=>match aR s1 with
   |.error e=>.error e
   |.ok (x,s2)=>dz f ((acc++[46])++x.data.toList) s2
noncomputable def oH (first:Int):Except (Int×Int) (List UInt8×ay)→Except (Int×Int) (ByteArray×ay)
 |.error e=>.error e
 |.ok (acc,s)=>if 255<acc.length then .error (2,first) else .ok (⟨acc.toArray⟩,s)
theorem nf {s s1:ay}{u:Unit} (h:bz s=.ok (u,s1)):s1.ts=s.ts.tail:=by
 unfold bz at h
 split at h
 ·cases h
 ·simp only[Except.ok.injEq,Prod.mk.injEq] at h
  rw[←h.2]
theorem mT {k:Int}{x:ByteArray}{s s1:ay}{f:Bool} (h:bX k x s=.ok (f,s1)):(f=false∧s1=s)∨(f=true∧s1.ts=s.ts.tail∧s.here.kind=k):=by
 unfold bX at h
 split at h
 ·next hp =>
  cases hn:bz s with
  |error e=>rw[hn] at h;cases h
  |ok y =>
   rw[hn] at h
   simp only[Except.ok.injEq,Prod.mk.injEq] at h
   obtain ⟨rfl,rfl⟩:=h
   refine .inr ⟨rfl,nf (u:=y.1) hn,?_⟩
   unfold aJ at hp
   rw[Bool.and_eq_true] at hp
   exact eq_of_beq hp.1
 ·simp only[Except.ok.injEq,Prod.mk.injEq] at h
  exact .inl ⟨h.1.symm,h.2.symm⟩
theorem jz {s s1:ay}{x:ByteArray} (h:aR s=.ok (x,s1)):s1.ts=s.ts.tail∧x.size≤255∧s.here.kind=1:=by
 unfold aR at h
 split at h
 ·next hk =>
  split at h
  ·next hf =>
   cases hn:bz s with
   |error e=>rw[hn] at h;cases h
   |ok y =>
    rw[hn] at h
    simp only[Except.ok.injEq,Prod.mk.injEq] at h
    obtain ⟨rfl,rfl⟩:=h
    refine ⟨nf (u:=y.1) hn,?_,hk⟩
    unfold bI at hf
    split at hf
    ·simp at hf
    ·omega
  ·cases h
 ·cases h
theorem nd {s s1:ay}{u:Unit} (h:bz s=.ok (u,s1)):s1.op=s.op∧s1.en=s.en:=by
 unfold bz at h
 split at h
 ·cases h
 ·simp only[Except.ok.injEq,Prod.mk.injEq] at h
  obtain ⟨_,rfl⟩:=h
  exact ⟨rfl,rfl⟩
theorem H' {k:Int}{x:ByteArray}{s s1:ay}{f:Bool} (h:bX k x s=.ok (f,s1)):s1.op=s.op∧s1.en=s.en:=by
 unfold bX at h
 split at h
 ·split at h
  ·rename_i hn
   simp only[Except.ok.injEq,Prod.mk.injEq] at h
   obtain ⟨_,rfl⟩:=h
   exact nd hn
  ·cases h
 ·simp only[Except.ok.injEq,Prod.mk.injEq] at h
  obtain ⟨_,rfl⟩:=h
  exact ⟨rfl,rfl⟩
theorem BI {s s1:ay}{x:ByteArray} (h:aR s=.ok (x,s1)):s1.op=s.op∧s1.en=s.en:=by
 unfold aR at h
 split at h
 ·split at h
  ·split at h
   ·rename_i hn
    simp only[Except.ok.injEq,Prod.mk.injEq] at h
    obtain ⟨_,rfl⟩:=h
    exact nd hn
   ·cases h
  ·cases h
 ·cases h
theorem Sm.tail {s s1:ay} (h:Sm s) (e:s1.ts=s.ts.tail):Sm s1:=fun t ht=>h t (by rw[e] at ht;exact List.mem_of_mem_tail ht)
structure Dt (lb b bb bt:Nat) (W0:World) (first:Int) (acc:List UInt8) (s:ay) (w:World):Prop where
 rd:Rd lb w b s
 sm:Sm s
 bu:Lib.IsBuilder 167 5 bb bb (Lib.byteCells acc) w
 fst:w.cell? ⟨bt,1,none⟩=some (.int .i64 first)
 gr:W0.grownBy w (some b)
 len:acc.length+300*s.ts.length≤5000000
structure Low (lb b bb bt:Nat) (W0:World):Prop where
 a:lb≤W0.heap.size
 b1:W0.heap.size≤bt
 c:bt<bb
 d:b<lb
theorem Dt.read {lb b bb bt:Nat}{W0 w w':World}{first:Int}{acc:List UInt8}{s s':ay} (h:Dt lb b bb bt W0 first acc s w) (hl:Low lb b bb bt W0) (hr:Rd lb w' b s') (hg:w.grownBy w' (some b)) (hs:Sm s') (hlen:s'.ts.length≤s.ts.length):Dt lb b bb bt W0 first acc s' w' :=
 ⟨hr,hs,Ey h.bu hg (by have:=hl.a;have:=hl.b1;have:=hl.c;have:=hl.d;omega),(World.cell?_of_block (a:=⟨bt,1,none⟩) (hg.block bt (World.block_lt_of_cell? w _ h.fst) (by have:=hl.a;have:=hl.b1;have:=hl.d;simp;omega))).trans h.fst,h.gr.trans hg,by have:=h.len;omega⟩
theorem Dt.write {lb b bb bt:Nat}{W0 w w':World}{first:Int}{acc ED:List UInt8}{s:ay} (h:Dt lb b bb bt W0 first acc s w) (hl:Low lb b bb bt W0) (hb:Lib.BuilderAt 167 5 bb bb (.pointer (some ⟨bb,0,none⟩)) (Lib.byteCells ED) w') (hw:Below bb w w') (hlen:ED.length+300*s.ts.length≤5000000):Dt lb b bb bt W0 first ED s w' :=
 ⟨h.rd.Uw (hw.mono (by have:=hl.a;have:=hl.b1;have:=hl.c;omega)),h.sm,.inr hb,(hw.cell (p:=⟨bt,1,none⟩) hl.c).trans h.fst,AX h.gr hw (by have:=hl.b1;have:=hl.c;omega),hlen⟩
theorem Dt.bbw {lb b bb bt:Nat}{W0 w:World}{first:Int}{acc:List UInt8}{s:ay} (h:Dt lb b bb bt W0 first acc s w):bb≤w.heap.size:=by
 rcases h.bu with q|q<;>exact Nat.le_of_lt q.lt
end Go.Proofs.YtjophoclfccmcaaGreatDoor
namespace Go.Proofs.YtjophoclfccmcaaGreatDoor
open Go.RowKit Go.Shelf
attribute [local go_sem ↓] Go.wp_at_zero Go.wp_at_succ
theorem Wa:Builder.Extra Tryz.prog Tryz.mC:={
 sizeBuilder:=by kernel_rfl
 liesBuilder:=by kernel_rfl
 t5:=Tryz.underlying5
 a5:=Tryz.isAgg5
 z5:=Tryz.sizeOf5
 v5:=Tryz.zeroValue5
 infoByte:=by kernel_rfl
 cellsByte:=by kernel_rfl
 sizeByte:=by kernel_rfl
 neB5:=by decide }
theorem PI (B b:Nat) (bs:List Value) (w:World) (h:Lib.IsBuilder 167 5 B b bs w):Calls Tryz.prog 141 #[.pointer (some ⟨b,0,none⟩)] w fun e w'=>e=.returned (.int .i64 bs.length)∧w'=w:=Any.Builder_Len Tryz.BN B b bs w h
theorem Ez (B b:Nat) (l:List UInt8) (w:World) (h:Lib.IsBuilder 167 5 B b (Lib.byteCells l) w) (hBw:B≤w.heap.size):Calls Tryz.prog 142 #[.pointer (some ⟨b,0,none⟩)] w fun e w'=>e=.returned (.string ⟨l.toArray⟩)∧Below B w w':=Any.Builder_String_any Tryz.BO Wa B b l w h hBw
noncomputable def Cd:Code:=match Tryz.f120.body with
 |some (.seq _ (.seq _ (.seq _ (.seq _ x))))=>x
 |_=>.skip
noncomputable def Pe (t:Code):Code:=match Tryz.f120.body with
 |some (.seq a (.seq b (.seq c (.seq d _))))=>.seq a (.seq b (.seq c (.seq d t)))
 |_=>.skip
theorem Pd:Tryz.f120.body=some (Pe Cd):=rfl
def DtJ (lb b bb bt:Nat) (W0:World) (first:Int) (R0:Except (Int×Int) (ByteArray×ay)) (f:Nat) (a:Act) (w:World):Prop:=∃(tm:Array Value) (acc:List UInt8) (s:ay),a=⟨tm,[]⟩∧tm.size=31∧Jc tm [(0,.pointer (some ⟨b,0,none⟩)),(5,.pointer (some ⟨bt,0,none⟩)),(6,.pointer (some ⟨bb,0,none⟩))]∧Dt lb b bb bt W0 first acc s w∧s.ts.length<f∧R0=oH first (dz f acc s)
noncomputable def iu (first:Int) (acc:List UInt8) (s:ay):Except (Int×Int) (ByteArray×ay):=match aR s with
 |.error e=>.error e
 |.ok (x,s1)=>oH first (dz (s1.ts.length+1) (acc++x.data.toList) s1)
theorem GS (a b:List UInt8):Lib.byteCells (a++b)=Lib.byteCells a++Lib.byteCells b:=List.map_append
theorem zm (a:List UInt8):(Lib.byteCells a).length=a.length:=List.length_map _
theorem rP (x:ByteArray):x.data.toList.length=x.size:=by rw[Array.length_toList];rfl
theorem nQ {s s1:ay} (e:s1.ts=s.ts.tail) (hk:s.en.kind=5) {k:Int} (hh:s.here.kind=k) (h5:k≠5):s1.ts.length+1=s.ts.length:=by
 have:=bN hk (by rw[hh];exact h5)
 rw[e,List.length_tail]
 omega
theorem qy {lb b bb bt:Nat}{W0 W:World}{first:Int}{acc:List UInt8}{s:ay}{R:Ending→World→Prop} (hl:Low lb b bb bt W0) (h:Dt lb b bb bt W0 first acc s W)
  {tm:Array Value} (ck:tm.size=31) (j7:Jc tm [(0,.pointer (some ⟨b,0,none⟩)),(5,.pointer (some ⟨bt,0,none⟩)),(6,.pointer (some ⟨bb,0,none⟩))]) (hR:∀e w,PR lb b W0 Value.string (iu first acc s) e w→R e w):Cd.wp Tryz.prog (bodyPost Tryz.prog Tryz.f120 R) ⟨tm,[]⟩ W:=by
 have HR:=ab hR
 have hc:=ab (kW h.rd h.sm)
 obtain ⟨u,rfl⟩:=IU ck
 obtain ⟨e0,e5,e6,_⟩:=j7
 replace e0:u 0=.pointer (some ⟨b,0,none⟩):=zC e0
 replace e5:u 5=.pointer (some ⟨bt,0,none⟩):=zC e5
 replace e6:u 6=.pointer (some ⟨bb,0,none⟩):=zC e6
 rw[e0,e5,e6]
 have Hd:=ab h
 have HL:=ab hl
 clear e0 e5 e6 ck hR h hl
 obtain ⟨Q,hQ⟩:∃Q,bodyPost Tryz.prog Tryz.f120 R=Q:=⟨_,rfl⟩
 rw[hQ]
 unfold Cd
 dsimp only[Tryz.f120]
 go_wp2_with fail
 refine (aa hc).mono ?_
 intro e w1 hw
 rcases hw.split with ⟨x,hr,rfl,hg⟩|⟨x,s1,hr,rfl,h1,hg⟩
 ·rw[←hQ]
  refine ⟨rfl,aa HR _ _ ?_⟩
  unfold iu
  rw[hr]
  exact ⟨rfl,(aa Hd).gr.trans hg⟩
 ·obtain ⟨n1,n2,n3⟩:=jz hr
  have n4:=nQ n1 (aa Hd).rd.grown n3 (by decide)
  have hD1:=(aa Hd).read (aa HL) h1 hg ((aa Hd).sm.tail n1) (by omega)
  have hlen:=(aa Hd).len
  have HD1:=ab hD1
  have HEq:Hid (iu first acc s=oH first (dz (s1.ts.length+1) (acc++x.data.toList) s1)):=by show _=_;unfold iu;rw[hr]
  have kl:=nv bb bb (Lib.byteCells acc) x w1 hD1.bu (by rw[zm];omega) hD1.bbw
  have Lr:=ab kl
  have hxd:=rP x
  clear hw hg h1 hr hD1 kl n1 n3 hc
  go_wp2_with fail
  refine (aa Lr).mono ?_
  rintro e w2 ⟨rfl,br,TA⟩
  rw[Lib.strCells_eq,←GS] at br
  have HD2:=ab ((aa HD1).write (aa HL) br TA (by rw[zK,hxd];omega))
  clear br TA HD1 Lr Hd
  go_wp2
  refine gL (DtJ lb b bb bt W0 first (iu first acc s)) ?_ (s1.ts.length+1) _ _ ⟨_,_,s1,rfl,rfl,⟨rfl,rfl,rfl,trivial⟩,aa HD2,by omega,aa HEq⟩
  clear HD2 HEq hxd n2 n4 hlen
  rintro f _ wr ⟨tm,ac,sc,rfl,ck,j7,hD,hf,CH⟩
  obtain ⟨u,rfl⟩:=IU ck
  obtain ⟨e0,e5,e6,_⟩:=j7
  replace e0:u 0=.pointer (some ⟨b,0,none⟩):=zC e0
  replace e5:u 5=.pointer (some ⟨bt,0,none⟩):=zC e5
  replace e6:u 6=.pointer (some ⟨bb,0,none⟩):=zC e6
  rw[e0,e5,e6]
  have HD:=ab hD
  have EL:=ab CH
  obtain ⟨f,rfl⟩:∃k,f=k+1:=⟨f-1,by omega⟩
  clear e0 e5 e6 ck hD CH
  go_wp2_with fail
  refine (gh (aa HD).rd _).mono ?_
  intro e w3 hw
  rcases hw.split with ⟨y,hr,rfl,hg⟩|⟨fl,s3,hr,rfl,h3,hg⟩
  ·show Q (Exit.panic _) _ _
   rw[←hQ]
   refine ⟨rfl,aa HR _ _ ?_⟩
   rw[aa EL]
   unfold dz
   rw[hr]
   exact ⟨rfl,(aa HD).gr.trans hg⟩
  ·rcases mT hr with ⟨rfl,rfl⟩|⟨rfl,Qi,EV⟩
   ·
    have KK:=(aa HD).read (aa HL) h3 hg (aa HD).sm (zD _)
    have nK:iu first acc s=(if 255<ac.length then .error (2,first) else .ok (⟨ac.toArray⟩,s3)):=by
     rw[aa EL]
     unfold dz
     rw[hr]
     rfl
    have HEq:=ab nK
    have G2:=ab KK
    have hac:=KK.len
    clear hw hr hg h3 KK nK HD EL
    go_wp2_with fail
    refine (PI bb bb _ w3 (aa G2).bu).mono ?_
    rintro e w4 ⟨rfl,ie⟩
    obtain rfl:w3=w4:=ie.symm
    rw[zm]
    clear ie
    by_cases mE:255<ac.length
    ·have hd:decide ((255:Int)<(ac.length:Int))=true:=by simp;omega
     have VI:=(aa G2).fst
     have HE:Hid (R (qv 2 first) w3):=aa HR _ _ (by rw[aa HEq,if_pos mE];exact ⟨rfl,(aa G2).gr⟩)
     clear mE
     go_wp2
     rw[←hQ]
     exact ⟨rfl,aa HE⟩
    ·have hd:decide ((255:Int)<(ac.length:Int))=false:=by simp;omega
     have HE:Hid (∀w,Below bb w3 w→R (.returned (.string ⟨ac.toArray⟩)) w):=fun w hb=>aa HR _ _ (by
      rw[aa HEq,if_neg mE]
      exact ⟨rfl,(aa G2).rd.Uw (hb.mono (by have:=(aa HL).a;have:=(aa HL).b1;have:=(aa HL).c;omega)),AX (aa G2).gr hb (by have:=(aa HL).b1;have:=(aa HL).c;omega)⟩)
     clear mE
     go_wp2_with fail
     refine (Ez bb bb ac w3 (aa G2).bu (aa G2).bbw).mono ?_
     rintro e w5 ⟨rfl,lr⟩
     have H5:=ab (aa HE w5 lr)
     clear lr
     go_wp2
     rw[←hQ]
     go_ret
     exact aa H5
   ·
    have n4:=nQ Qi (aa HD).rd.grown EV (by decide)
    have KK:=(aa HD).read (aa HL) h3 hg ((aa HD).sm.tail Qi) (by omega)
    have hlen:=(aa HD).len
    have Hr:=ab hr
    have G2:=ab KK
    have ie:=pC bb bb (Lib.byteCells ac) 46 w3 KK.bu (by rw[zm];omega) KK.bbw
    have Jm:=ab ie
    clear hw hr hg h3 KK ie HD Qi EV
    go_wp2_with fail
    refine (aa Jm).mono ?_
    rintro e w4 ⟨rfl,fj,DW⟩
    have Z1:Lib.BuilderAt 167 5 bb bb (.pointer (some ⟨bb,0,none⟩)) (Lib.byteCells (ac++[46])) w4:=by rw[GS];exact fj
    have hD4:=(aa G2).write (aa HL) Z1 DW (by rw[zK];simp only[List.length_cons,List.length_nil];omega)
    have Ur:=ab hD4
    have hc4:=ab (kW hD4.rd hD4.sm)
    clear fj Z1 DW hD4 G2 Jm
    go_wp2_with fail
    refine (aa hc4).mono ?_
    intro e w5 hw
    rcases hw.split with ⟨y,hr,rfl,hg⟩|⟨x,s5,hr,rfl,h5,hg⟩
    ·show Q (Exit.panic _) _ _
     rw[←hQ]
     refine ⟨rfl,aa HR _ _ ?_⟩
     rw[aa EL]
     unfold dz
     rw[aa Hr]
     simp only
     rw[hr]
     exact ⟨rfl,(aa Ur).gr.trans hg⟩
    ·obtain ⟨m1,m2,m3⟩:=jz hr
     have m4:=nQ m1 (aa Ur).rd.grown m3 (by decide)
     have hD5:=(aa Ur).read (aa HL) h5 hg ((aa Ur).sm.tail m1) (by omega)
     have TB:=(aa Ur).len
     rw[zK] at TB
     simp only[List.length_cons,List.length_nil] at TB
     have HD5:=ab hD5
     have nK:iu first acc s=oH first (dz f ((ac++[46])++x.data.toList) s5):=by
      rw[aa EL]
      conv=>lhs;unfold dz
      rw[aa Hr]
      simp only
      rw[hr]
     have HEq:=ab nK
     have hw6:=nv bb bb (Lib.byteCells (ac++[46])) x w5 hD5.bu (by rw[zm,zK];simp only[List.length_cons,List.length_nil];omega) hD5.bbw
     have HW6:=ab hw6
     have hxd:=rP x
     clear hw hr hg h5 hD5 hw6 nK Ur hc4 m1 m3
     go_wp2_with fail
     refine (aa HW6).mono ?_
     rintro e w6 ⟨rfl,Qt,Tz⟩
     rw[Lib.strCells_eq,←GS] at Qt
     have HD6:=ab ((aa HD5).write (aa HL) Qt Tz (by rw[zK,zK,hxd];simp only[List.length_cons,List.length_nil];omega))
     clear Qt Tz HD5 HW6
     go_wp2
     exact ⟨f,rfl,_,_,s5,rfl,rfl,⟨rfl,rfl,rfl,trivial⟩,aa HD6,by omega,aa HEq⟩
noncomputable def ba (da:Bool) (s:ay):Except (Int×Int) (ByteArray×ay):=match (if da=true then bX 4 ⟨#[46]⟩ s else .ok (false,s)) with
 |.error e=>.error e
 |.ok (d,s1)=>iu s.here.spot (if d=true then [46] else []) s1
theorem Ex (w:World):Lib.IsBuilder 167 5 w.heap.size w.heap.size (Lib.byteCells []) (w.alloc (.cells #[.pointer none,.slice none 0 0] 167)) :=
 .inl ⟨zD _,.slice none 0 0,aH _ _,World.ownsRow_nil _ _ _ _,by simp[Value.ownBlock]⟩
theorem nr {lb b:Nat}{W:World}{s:ay} (da:Bool) (h:Rd lb W b s) (hs:Sm s) (hn:s.ts.length≤16384):Calls Tryz.prog 120 #[.pointer (some ⟨b,0,none⟩),.bool da] W (PR lb b W Value.string (ba da s)):=by
 have hc:=ab (fC h)
 have cB:=h.low
 have Hd:=ab h
 have Hs:=ab hs
 obtain ⟨t,ht⟩:∃t,s.here=t:=⟨_,rfl⟩
 rw[ht] at hc
 have HF:Hid (ba da s=(match (if da=true then bX 4 ⟨#[46]⟩ s else .ok (false,s)) with|.error e=>.error e|.ok (d,s1)=>iu t.spot (if d=true then [46] else []) s1)):=by show _=_;unfold ba;rw[ht]
 obtain ⟨kd,sp,tx⟩:=t
 unfold Tk.val at hc
 simp only at hc HF
 clear ht h hs
 refine calls_of_wp Tryz.func120 Pd ?_
 obtain ⟨tl,pL⟩:∃t,Cd=t:=⟨_,rfl⟩
 rw[pL]
 obtain ⟨Q,hQ⟩:∃Q,bodyPost Tryz.prog Tryz.f120 (PR lb b W Value.string (ba da s))=Q:=⟨_,rfl⟩
 rw[hQ]
 unfold Pe
 dsimp only[Tryz.f120]
 simp only[List.size_toArray,List.length_cons,List.length_nil,Nat.reduceAdd,Nat.reduceSub,Array.replicate_succ,Array.replicate_zero,List.push_toArray,List.append_toArray,List.nil_append,List.cons_append]
 go_wp2_with fail
 refine (aa hc).mono ?_
 rintro e w1 ⟨rfl,bQ⟩
 have nJ:=bQ.size
 have br:=(bQ.alloc nJ (.cells #[.int .i64 kd,.int .i64 sp,.string tx] 38)).alloc (by rw[zJ];omega) (.cells #[.pointer none,.slice none 0 0] 167)
 have hL:Low lb b (w1.heap.size+1) w1.heap.size W:=⟨cB.2,nJ,by omega,cB.1⟩
 have hbu:=Ex (w1.alloc (.cells #[.int .i64 kd,.int .i64 sp,.string tx] 38))
 rw[zJ] at hbu
 have VI:((w1.alloc (.cells #[.int .i64 kd,.int .i64 sp,.string tx] 38)).alloc (.cells #[.pointer none,.slice none 0 0] 167)).cell? ⟨w1.heap.size,1,none⟩=some (.int .i64 sp):=by
  rw[cell_of_row _ _ _ _ _ _ ((Below.heap_alloc _ _ _ (by rw[zJ];omega)).trans (aH w1 _))]
  rfl
 have hD:Dt lb b (w1.heap.size+1) w1.heap.size W sp [] s ((w1.alloc (.cells #[.int .i64 kd,.int .i64 sp,.string tx] 38)).alloc (.cells #[.pointer none,.slice none 0 0] 167)):=⟨(aa Hd).up br,aa Hs,hbu,VI,aD b br,by simp only[List.length_nil];omega⟩
 have HD:=ab hD
 have HL:=ab hL
 clear bQ br hL hbu VI hD hc nJ cB
 cases da with
 |false =>
  simp only[Bool.false_eq_true,if_false] at HF
  go_wp2
  rw[←pL,←hQ]
  refine qy (aa HL) (aa HD) rfl ⟨rfl,rfl,rfl,trivial⟩ ?_
  intro e w hw
  rw[aa HF]
  exact hw
 |true =>
  simp only[if_true] at HF
  go_wp2_with fail
  refine (gh (aa HD).rd _).mono ?_
  intro e w3 hw
  rcases hw.split with ⟨y,hr,rfl,hg⟩|⟨fl,s3,hr,rfl,h3,hg⟩
  ·show Q (Exit.panic _) _ _
   rw[←hQ]
   refine ⟨rfl,?_⟩
   rw[aa HF,hr]
   exact ⟨rfl,(aa HD).gr.trans hg⟩
  ·have nB:Hid (ba true s=iu sp (if fl=true then [46] else []) s3):=by show _=_;rw[aa HF,hr]
   rcases mT hr with ⟨rfl,rfl⟩|⟨rfl,Qi,EV⟩
   ·have G2:=ab ((aa HD).read (aa HL) h3 hg (aa HD).sm (zD _))
    clear hw hr hg h3 HD HF
    go_wp2
    rw[←pL,←hQ]
    refine qy (aa HL) (aa G2) rfl ⟨rfl,rfl,rfl,trivial⟩ ?_
    intro e w hw
    rw[aa nB]
    exact hw
   ·have n4:=nQ Qi (aa HD).rd.grown EV (by decide)
    have KK:=(aa HD).read (aa HL) h3 hg ((aa HD).sm.tail Qi) (by omega)
    have G2:=ab KK
    have Jm:=ab (pC (w1.heap.size+1) (w1.heap.size+1) (Lib.byteCells []) 46 w3 KK.bu (by rw[zm];simp) KK.bbw)
    clear hw hr hg h3 KK HD HF Qi EV
    go_wp2_with fail
    refine (aa Jm).mono ?_
    rintro e w4 ⟨rfl,fj,DW⟩
    have Ur:Hid (Dt lb b (w1.heap.size+1) w1.heap.size W sp [46] s3 w4):=(aa G2).write (aa HL) fj DW (by simp only[List.length_cons,List.length_nil];omega)
    clear fj DW G2 Jm
    go_wp2
    rw[←pL,←hQ]
    refine qy (aa HL) (aa Ur) rfl ⟨rfl,rfl,rfl,trivial⟩ ?_
    intro e w hw
    rw[aa nB]
    exact hw
structure Fd where
 GN:Int
 key:ByteArray
 ty:ByteArray
 name:ByteArray
 num:Int
 yl:Int
def Fd.arr (d:Fd):Array Value:=#[.int .i64 d.GN,.string d.key,.string d.ty,.string d.name,.int .i64 d.num,.int .i64 d.yl]
def Fd.val (d:Fd):Value:=.agg d.arr
theorem kp:(Tryz.prog.info? 45).map (·.size)=some 6:=by kernel_rfl
noncomputable def AL (d:Fd) (s:ay):Except (Int×Int) (Fd×ay):=match aR s with
 |.error e=>.error e
 |.ok (x,s1)=>match dY 0 2147483647 false s1 with
  |.error e=>.error e
  |.ok (n,s2)=>.ok ({ d with name:=x,num:=n },s2)
theorem bE {w:World}{g:Nat}{a0 a1 a2 a3 a4 a5:Value}{t:TypeId} (h:w.heap[g]?=some (.cells #[a0,a1,a2,a3,a4,a5] t (0,0))):(w.cell? ⟨g,0,none⟩=some a0∧w.cell? ⟨g,1,none⟩=some a1∧w.cell? ⟨g,2,none⟩=some a2∧w.cell? ⟨g,3,none⟩=some a3∧w.cell? ⟨g,4,none⟩=some a4∧w.cell? ⟨g,5,none⟩=some a5)∧∀j,w.frozen? ⟨g,j,none⟩=false:=by
 refine ⟨⟨?_,?_,?_,?_,?_,?_⟩,fun j=>by simp[World.frozen?,h]⟩<;>rw[cell_of_row _ _ _ _ _ _ h]<;>rfl
def mv (w:World) (g:Nat) (a0 a1 a2 a3 a4 a5:Value):World:=(((((w.setCell ⟨g,0,none⟩ a0).setCell ⟨g,1,none⟩ a1).setCell ⟨g,2,none⟩ a2).setCell ⟨g,3,none⟩ a3).setCell ⟨g,4,none⟩ a4).setCell ⟨g,5,none⟩ a5
theorem gZ {w:World}{g:Nat}{b0 b1 b2 b3 b4 b5:Value}{t:TypeId} (h:w.heap[g]?=some (.cells #[b0,b1,b2,b3,b4,b5] t (0,0))) (a0 a1 a2 a3 a4 a5:Value):(mv w g a0 a1 a2 a3 a4 a5).heap[g]?=some (.cells #[a0,a1,a2,a3,a4,a5] t (0,0))∧w.grownBy (mv w g a0 a1 a2 a3 a4 a5) (some g):=by
 obtain ⟨h0,g0⟩:=aC (j:=0) h a0
 obtain ⟨h1,g1⟩:=aC (j:=1) h0 a1
 obtain ⟨h2,g2⟩:=aC (j:=2) h1 a2
 obtain ⟨h3,g3⟩:=aC (j:=3) h2 a3
 obtain ⟨h4,g4⟩:=aC (j:=4) h3 a4
 obtain ⟨h5,g5⟩:=aC (j:=5) h4 a5
 exact ⟨h5,((((g0.trans g1).trans g2).trans g3).trans g4).trans g5⟩
theorem dM {W w w':World}{b g:Nat} (h:W.grownBy w (some b)) (k:w.grownBy w' (some g)) (hl:W.heap.size≤g):W.grownBy w' (some b) :=
 ⟨k.os.trans h.os,k.tape.trans h.tape,k.output.trans h.output,Nat.le_trans h.size k.size,fun i hi dV=>(k.block i (Nat.lt_of_lt_of_le hi h.size) (by simp;omega)).trans (h.block i hi dV)⟩
theorem hJ {lb b g:Nat}{s:ay}{w w':World} (h:Rd lb w b s) (k:w.grownBy w' (some g)) (hl:lb≤g):Rd lb w' b s :=
 h.Uw ((zE lb w).grown k h.low.2 (fun i e=>by simp at e;omega))
theorem xy {V W w:World}{b g:Nat} (h:Env V W b) (k:W.grownBy w (some g)) (hl:V.heap.size≤g):Env V w b :=
 ⟨h.f,h.e,h.m,h.below.grown k h.below.size (fun i e=>by simp at e;omega),h.lo⟩
theorem M6 {lb b:Nat}{V W:World}{s:ay} (d:Fd) (hv:Env V W b) (h:Rd lb W b s) (hs:Sm s):Calls Tryz.prog 175 #[.pointer (some ⟨b,0,none⟩),d.val] W (PR lb b W Fd.val (AL d s)):=by
 obtain ⟨c0,k0,t0,n0,m0,o0⟩:=d
 have cB:=h.low
 have hVb:=hv.lo
 have br:Below W.heap.size W ((W.alloc (.cells #[.int .i64 c0,.string k0,.string t0,.string n0,.int .i64 m0,.int .i64 o0] 45)).alloc (.cells #[.int .i64 0,.string ⟨#[]⟩,.string ⟨#[]⟩,.string ⟨#[]⟩,.int .i64 0,.int .i64 0] 45)):=((zE _ _).alloc (zD _) _).alloc (by rw[zJ];omega) _
 have jo:((W.alloc (.cells #[.int .i64 c0,.string k0,.string t0,.string n0,.int .i64 m0,.int .i64 o0] 45)).alloc (.cells #[.int .i64 0,.string ⟨#[]⟩,.string ⟨#[]⟩,.string ⟨#[]⟩,.int .i64 0,.int .i64 0] 45)).heap[W.heap.size]?=some (.cells #[.int .i64 c0,.string k0,.string t0,.string n0,.int .i64 m0,.int .i64 o0] 45 (0,0)):=(Below.heap_alloc _ _ _ (by rw[zJ];omega)).trans (aH _ _)
 have eL:((W.alloc (.cells #[.int .i64 c0,.string k0,.string t0,.string n0,.int .i64 m0,.int .i64 o0] 45)).alloc (.cells #[.int .i64 0,.string ⟨#[]⟩,.string ⟨#[]⟩,.string ⟨#[]⟩,.int .i64 0,.int .i64 0] 45)).heap[W.heap.size+1]?=some (.cells #[.int .i64 0,.string ⟨#[]⟩,.string ⟨#[]⟩,.string ⟨#[]⟩,.int .i64 0,.int .i64 0] 45 (0,0)):=by
  have:=aH (W.alloc (.cells #[.int .i64 c0,.string k0,.string t0,.string n0,.int .i64 m0,.int .i64 o0] 45)) (.cells #[.int .i64 0,.string ⟨#[]⟩,.string ⟨#[]⟩,.string ⟨#[]⟩,.int .i64 0,.int .i64 0] 45)
  rw[zJ] at this
  exact this
 have hc:=ab (kW (h.up br) hs)
 have tV:=ab (aD b br)
 have Hv:=ab (hv.step (aD b br))
 have LL:=ab jo
 have tg:=ab eL
 clear jo eL br h hv hs
 unfold Fd.val Fd.arr
 simp only
 go_enter Tryz.func175,Tryz.ntmps175
 go_wp2_with fail
 refine (aa hc).mono ?_
 intro e w1 hw
 rcases hw.split with ⟨y,hr,rfl,hg⟩|⟨x,s1,hr,rfl,h1,hg⟩
 ·refine ⟨rfl,?_⟩
  unfold AL
  rw[hr]
  exact ⟨rfl,(aa tV).trans hg⟩
 ·have l1:W.heap.size<w1.heap.size:=Nat.lt_of_lt_of_le (zA (aa LL)).1 hg.size
  have p1:=(hg.block W.heap.size (zA (aa LL)).1 (by simp;omega)).trans (aa LL)
  have p2:=(hg.block (W.heap.size+1) (zA (aa tg)).1 (by simp;omega)).trans (aa tg)
  obtain ⟨⟨y0,y1,y2,y3,y4,y5⟩,yf⟩:=bE p1
  have f3:=yf 3
  obtain ⟨q1,g1⟩:=aC (j:=3) p1 (.string x)
  have q2:=(g1.block (W.heap.size+1) (zA p2).1 (by simp)).trans p2
  have Oc:=hJ h1 g1 (by omega)
  have tL:=xy ((aa Hv).step hg) g1 (by omega)
  have lT:=dM ((aa tV).trans hg) g1 (zD _)
  have Hr:=ab hr
  have HC:=ab (rW 0 2147483647 false tL Oc)
  have Q1:=ab q1
  have Q2:=ab q2
  have tn:=ab lT
  clear hw hr hg h1 p1 p2 yf q1 q2 g1 Oc tL lT LL tg tV hc l1
  go_wp2_with fail
  refine (aa HC).mono ?_
  intro e w2 hw
  rcases hw.split with ⟨y,hr,rfl,hg⟩|⟨n,s2,hr,rfl,h2,hg⟩
  ·refine ⟨rfl,?_⟩
   unfold AL
   rw[aa Hr]
   simp only
   rw[hr]
   exact ⟨rfl,(aa tn).trans hg⟩
  ·have p1:=(hg.block W.heap.size (zA (aa Q1)).1 (by simp;omega)).trans (aa Q1)
   have p2:=(hg.block (W.heap.size+1) (zA (aa Q2)).1 (by simp;omega)).trans (aa Q2)
   simp only[zN,zM] at p1
   obtain ⟨⟨z0,z1,z2,z3,z4,z5⟩,zf⟩:=bE p1
   have f4:=zf 4
   obtain ⟨q1,g1⟩:=aC (j:=4) p1 (.int .i64 n)
   have q2:=(g1.block (W.heap.size+1) (zA p2).1 (by simp)).trans p2
   simp only[zN,zM] at q1
   obtain ⟨⟨u0,u1,u2,u3,u4,u5⟩,_⟩:=bE q1
   obtain ⟨⟨v0,v1,v2,v3,v4,v5⟩,vf⟩:=bE q2
   have e0:=vf 0
   have e1:=vf 1
   have e2:=vf 2
   have e3:=vf 3
   have e4:=vf 4
   have e5:=vf 5
   obtain ⟨r1,r2⟩:=gZ q2 (.int .i64 c0) (.string k0) (.string t0) (.string x) (.int .i64 n) (.int .i64 o0)
   have HE:Hid (PR lb b W Fd.val (AL ⟨c0,k0,t0,n0,m0,o0⟩ s) (.returned (.agg #[.int .i64 c0,.string k0,.string t0,.string x,.int .i64 n,.int .i64 o0])) (mv (w2.setCell ⟨W.heap.size,4,none⟩ (.int .i64 n)) (W.heap.size+1) (.int .i64 c0) (.string k0) (.string t0) (.string x) (.int .i64 n) (.int .i64 o0))):=by
    show PR lb b W Fd.val (AL ⟨c0,k0,t0,n0,m0,o0⟩ s) _ _
    unfold AL
    rw[aa Hr]
    simp only
    rw[hr]
    exact ⟨rfl,hJ (hJ h2 g1 (by omega)) r2 (by omega),dM (dM ((aa tn).trans hg) g1 (zD _)) r2 (by omega)⟩
   have R1:=ab r1
   unfold mv at HE R1
   clear hw hr hg h2 p1 p2 zf q1 q2 g1 vf r1 r2 HC Q1 Q2 tn Hr Hv
   unfold sK
   go_wp2
   exact bodyPost_ret (results_cell_row rfl _ _ (W.heap.size+1) 45 #[.int .i64 c0,.string k0,.string t0,.string x,.int .i64 n,.int .i64 o0] (0,0) _ rfl (aa R1) Tryz.underlying45 rfl kp) rfl (aa HE)
def jk (s s1:ay):Prop:=∃k,s1.ts=s.ts.drop k∧s1.op=s.op∧s1.en=s.en
theorem jk.refl (s:ay):jk s s:=⟨0,rfl,rfl,rfl⟩
theorem jk.trans {a b c:ay} (h:jk a b) (k:jk b c):jk a c:=by
 obtain ⟨m,h,h1,h2⟩:=h
 obtain ⟨n,k,k1,k2⟩:=k
 exact ⟨m+n,by rw[k,h,List.drop_drop],k1.trans h1,k2.trans h2⟩
theorem jk.tail {s s1:ay} (h:s1.ts=s.ts.tail) (ho:s1.op=s.op∧s1.en=s.en):jk s s1:=⟨1,by rw[h,List.drop_one],ho⟩
theorem jk.op {s s1:ay} (h:jk s s1):s1.op=s.op:=by
 obtain ⟨_,_,h,_⟩:=h
 exact h
theorem jk.len {s s1:ay} (h:jk s s1):s1.ts.length≤s.ts.length:=by
 obtain ⟨k,h,_⟩:=h
 rw[h,List.length_drop]
 omega
theorem jk.sm {s s1:ay} (h:jk s s1) (k:Sm s):Sm s1:=by
 obtain ⟨n,h,_⟩:=h
 intro t ht
 rw[h] at ht
 exact k t (List.mem_of_mem_drop ht)
theorem dQ {k:Int}{x:ByteArray}{s s1:ay}{f:Bool} (h:bX k x s=.ok (f,s1)):jk s s1:=by
 rcases mT h with ⟨_,rfl⟩|⟨_,h1,_⟩
 ·exact .refl _
 ·exact .tail h1 (H' h)
theorem Dc:∀(f:Nat) (acc:List UInt8) (s:ay) {r:List UInt8}{s1:ay},dz f acc s=.ok (r,s1)→jk s s1
 |0,acc,s,r,s1,h=>by unfold dz at h;cases h
 |f+1,acc,s,r,s1,h=>by
  unfold dz at h
  cases ht:bX 4 ⟨#[46]⟩ s with
  |error e=>rw[ht] at h;cases h
  |ok y =>
   obtain ⟨fl,s2⟩:=y
   rw[ht] at h
   cases fl with
   |false =>
    simp only[Except.ok.injEq,Prod.mk.injEq] at h
    rw[←h.2]
    exact dQ ht
   |true =>
    simp only at h
    cases hn:aR s2 with
    |error e=>rw[hn] at h;cases h
    |ok z =>
     rw[hn] at h
     exact ((dQ ht).trans (.tail (jz hn).1 (BI hn))).trans (Dc f _ _ h)
theorem AB {first:Int}{acc:List UInt8}{s s1:ay}{x:ByteArray} (h:iu first acc s=.ok (x,s1)):jk s s1:=by
 unfold iu at h
 cases hn:aR s with
 |error e=>rw[hn] at h;cases h
 |ok z =>
  rw[hn] at h
  simp only at h
  cases hl:dz (z.2.ts.length+1) (acc++z.1.data.toList) z.2 with
  |error e=>rw[hl] at h;cases h
  |ok y =>
   rw[hl] at h
   unfold oH at h
   simp only at h
   split at h
   ·cases h
   ·simp only[Except.ok.injEq,Prod.mk.injEq] at h
    rw[←h.2]
    exact (jk.tail (jz hn).1 (BI hn)).trans (Dc _ _ _ hl)
theorem ft {da:Bool}{s s1:ay}{x:ByteArray} (h:ba da s=.ok (x,s1)):jk s s1:=by
 unfold ba at h
 cases da with
 |false =>
  simp only[Bool.false_eq_true,if_false] at h
  exact AB h
 |true =>
  simp only[if_true] at h
  cases ht:bX 4 ⟨#[46]⟩ s with
  |error e=>rw[ht] at h;cases h
  |ok y =>
   rw[ht] at h
   exact (dQ ht).trans (AB h)
noncomputable def gG (d:Fd) (s:ay):Except (Int×Int) (Fd×ay):=match ba true s with
 |.error e=>.error e
 |.ok (x,s1)=>AL { d with ty:=x } s1
theorem tQ {lb b:Nat}{V W:World}{s:ay} (d:Fd) (hv:Env V W b) (h:Rd lb W b s) (hs:Sm s) (hn:s.ts.length≤16384):Calls Tryz.prog 155 #[.pointer (some ⟨b,0,none⟩),d.val] W (PR lb b W Fd.val (gG d s)):=by
 obtain ⟨c0,k0,t0,n0,m0,o0⟩:=d
 have cB:=h.low
 have hVb:=hv.lo
 have br:Below W.heap.size W ((W.alloc (.cells #[.int .i64 c0,.string k0,.string t0,.string n0,.int .i64 m0,.int .i64 o0] 45)).alloc (.cells #[.int .i64 0,.string ⟨#[]⟩,.string ⟨#[]⟩,.string ⟨#[]⟩,.int .i64 0,.int .i64 0] 45)):=((zE _ _).alloc (zD _) _).alloc (by rw[zJ];omega) _
 have jo:((W.alloc (.cells #[.int .i64 c0,.string k0,.string t0,.string n0,.int .i64 m0,.int .i64 o0] 45)).alloc (.cells #[.int .i64 0,.string ⟨#[]⟩,.string ⟨#[]⟩,.string ⟨#[]⟩,.int .i64 0,.int .i64 0] 45)).heap[W.heap.size]?=some (.cells #[.int .i64 c0,.string k0,.string t0,.string n0,.int .i64 m0,.int .i64 o0] 45 (0,0)):=(Below.heap_alloc _ _ _ (by rw[zJ];omega)).trans (aH _ _)
 have eL:((W.alloc (.cells #[.int .i64 c0,.string k0,.string t0,.string n0,.int .i64 m0,.int .i64 o0] 45)).alloc (.cells #[.int .i64 0,.string ⟨#[]⟩,.string ⟨#[]⟩,.string ⟨#[]⟩,.int .i64 0,.int .i64 0] 45)).heap[W.heap.size+1]?=some (.cells #[.int .i64 0,.string ⟨#[]⟩,.string ⟨#[]⟩,.string ⟨#[]⟩,.int .i64 0,.int .i64 0] 45 (0,0)):=by
  have:=aH (W.alloc (.cells #[.int .i64 c0,.string k0,.string t0,.string n0,.int .i64 m0,.int .i64 o0] 45)) (.cells #[.int .i64 0,.string ⟨#[]⟩,.string ⟨#[]⟩,.string ⟨#[]⟩,.int .i64 0,.int .i64 0] 45)
  rw[zJ] at this
  exact this
 have hc:=ab (nr true (h.up br) hs hn)
 have tV:=ab (aD b br)
 have Hv:=ab (hv.step (aD b br))
 have LL:=ab jo
 have tg:=ab eL
 have HS:=ab hs
 clear jo eL br h hv hs
 unfold Fd.val Fd.arr
 simp only
 go_enter Tryz.func155,Tryz.ntmps155
 go_wp2_with fail
 refine (aa hc).mono ?_
 intro e w1 hw
 rcases hw.split with ⟨y,hr,rfl,hg⟩|⟨x,s1,hr,rfl,h1,hg⟩
 ·refine ⟨rfl,?_⟩
  unfold gG
  rw[hr]
  exact ⟨rfl,(aa tV).trans hg⟩
 ·have p1:=(hg.block W.heap.size (zA (aa LL)).1 (by simp;omega)).trans (aa LL)
  have p2:=(hg.block (W.heap.size+1) (zA (aa tg)).1 (by simp;omega)).trans (aa tg)
  obtain ⟨⟨y0,y1,y2,y3,y4,y5⟩,yf⟩:=bE p1
  have f2:=yf 2
  obtain ⟨q1,g1⟩:=aC (j:=2) p1 (.string x)
  have q2:=(g1.block (W.heap.size+1) (zA p2).1 (by simp)).trans p2
  simp only[zN,zM] at q1
  obtain ⟨⟨u0,u1,u2,u3,u4,u5⟩,_⟩:=bE q1
  have Oc:=hJ h1 g1 (by omega)
  have tL:=xy ((aa Hv).step hg) g1 (by omega)
  have lT:=dM ((aa tV).trans hg) g1 (zD _)
  have Hr:=ab hr
  have HC:=ab (M6 ⟨c0,k0,x,n0,m0,o0⟩ tL Oc ((ft hr).sm (aa HS)))
  have Q2:=ab q2
  have tn:=ab lT
  unfold Fd.val Fd.arr at HC
  simp only at HC
  clear hw hr hg h1 p1 p2 yf q1 q2 g1 Oc tL lT LL tg tV hc
  go_wp2_with fail
  refine (aa HC).mono ?_
  intro e w2 hw
  rcases hw.split with ⟨y,hr,rfl,hg⟩|⟨d2,s2,hr,rfl,h2,hg⟩
  ·refine ⟨rfl,?_⟩
   unfold gG
   rw[aa Hr]
   simp only
   rw[hr]
   exact ⟨rfl,(aa tn).trans hg⟩
  ·obtain ⟨c9,k9,t9,n9,m9,o9⟩:=d2
   simp only
   have p2:=(hg.block (W.heap.size+1) (zA (aa Q2)).1 (by simp;omega)).trans (aa Q2)
   obtain ⟨⟨v0,v1,v2,v3,v4,v5⟩,vf⟩:=bE p2
   have e0:=vf 0
   have e1:=vf 1
   have e2:=vf 2
   have e3:=vf 3
   have e4:=vf 4
   have e5:=vf 5
   obtain ⟨r1,r2⟩:=gZ p2 (.int .i64 c9) (.string k9) (.string t9) (.string n9) (.int .i64 m9) (.int .i64 o9)
   have HE:Hid (PR lb b W Fd.val (gG ⟨c0,k0,t0,n0,m0,o0⟩ s) (.returned (.agg #[.int .i64 c9,.string k9,.string t9,.string n9,.int .i64 m9,.int .i64 o9])) (mv w2 (W.heap.size+1) (.int .i64 c9) (.string k9) (.string t9) (.string n9) (.int .i64 m9) (.int .i64 o9))):=by
    show PR lb b W Fd.val (gG ⟨c0,k0,t0,n0,m0,o0⟩ s) _ _
    unfold gG
    rw[aa Hr]
    simp only
    rw[hr]
    exact ⟨rfl,hJ h2 r2 (by omega),dM ((aa tn).trans hg) r2 (by omega)⟩
   have R1:=ab r1
   unfold mv at HE R1
   clear hw hr hg h2 p2 vf r1 r2 HC Q2 tn Hr Hv u0 u1 u2 u3 u4 u5 y0 y1 y2 y3 y4 y5 f2
   go_wp2
   exact bodyPost_ret (results_cell_row rfl _ _ (W.heap.size+1) 45 #[.int .i64 c9,.string k9,.string t9,.string n9,.int .i64 m9,.int .i64 o9] (0,0) _ rfl (aa R1) Tryz.underlying45 rfl kp) rfl (aa HE)
end Go.Proofs.YtjophoclfccmcaaGreatDoor

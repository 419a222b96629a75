import Derived.Test.YtjophoclfccmcaaGreatDoorM13
set_option maxHeartbeats 4000000
set_option maxRecDepth 100000
namespace Go.Proofs
open Go.Shelf
def Tryz.mz:Go.Shelf.Ren:=⟨fun|169=>142|n=>n,fun|70=>165|9=>9|0=>0|72=>167|37=>94|127=>125|3=>3|5=>5|n=>n,fun|n=>n⟩
theorem Tryz.BU:Go.Proofs.Lays.n169 Tryz.prog Tryz.mz:={
 mixed:=by kernel_rfl
 f169:=Tryz.func142.trans (congrArg some (by kernel_rfl))
 t0:=Tryz.underlying0
 a0:=Tryz.isAgg0
 z0:=Tryz.sizeOf0
 v0:=Tryz.zeroValue0
 t3:=Tryz.underlying3
 a3:=Tryz.isAgg3
 z3:=Tryz.sizeOf3
 v3:=Tryz.zeroValue3
 t9:=Tryz.underlying9
 a9:=Tryz.isAgg9
 z9:=Tryz.sizeOf9
 v9:=Tryz.zeroValue9
 t37:=Tryz.underlying94
 a37:=Tryz.isAgg94
 z37:=Tryz.sizeOf94
 v37:=Tryz.zeroValue94
 t70:=Tryz.underlying165
 a70:=Tryz.isAgg165
 z70:=Tryz.sizeOf165
 v70:=Tryz.zeroValue165
 t72:=Tryz.underlying167
 a72:=Tryz.isAgg167
 z72:=Tryz.sizeOf167
 v72:=Tryz.zeroValue167
 t127:=Tryz.underlying125
 a127:=Tryz.isAgg125
 z127:=Tryz.sizeOf125
 v127:=Tryz.zeroValue125 }
def Tryz.sD:Go.Shelf.Ren:=⟨fun|170=>141|n=>n,fun|70=>165|3=>3|0=>0|72=>167|37=>94|5=>5|n=>n,fun|n=>n⟩
theorem Tryz.BT:Go.Proofs.Lays.n170 Tryz.prog Tryz.sD:={
 mixed:=by kernel_rfl
 f170:=Tryz.func141.trans (congrArg some (by kernel_rfl))
 t0:=Tryz.underlying0
 a0:=Tryz.isAgg0
 z0:=Tryz.sizeOf0
 v0:=Tryz.zeroValue0
 t3:=Tryz.underlying3
 a3:=Tryz.isAgg3
 z3:=Tryz.sizeOf3
 v3:=Tryz.zeroValue3
 t37:=Tryz.underlying94
 a37:=Tryz.isAgg94
 z37:=Tryz.sizeOf94
 v37:=Tryz.zeroValue94
 t70:=Tryz.underlying165
 a70:=Tryz.isAgg165
 z70:=Tryz.sizeOf165
 v70:=Tryz.zeroValue165
 t72:=Tryz.underlying167
 a72:=Tryz.isAgg167
 z72:=Tryz.sizeOf167
 v72:=Tryz.zeroValue167 }
end Go.Proofs
namespace Go.Proofs.YtjophoclfccmcaaGreatDoor
open Go.RowKit
attribute [local go_sem ↓] Go.wp_at_zero Go.wp_at_succ
theorem IY {tm:Array Value} (h:tm.size=31):∃u:Nat→Value,tm=#[u 0,u 1,u 2,u 3,u 4,u 5,u 6,u 7,u 8,u 9,u 10,u 11,u 12,u 13,u 14,u 15,u 16,u 17,u 18,u 19,u 20,u 21,u 22,u 23,u 24,u 25,u 26,u 27,u 28,u 29,u 30]:=by
 refine ⟨fun i=>tm.getD i undef,?_⟩
 have e:tm=((List.range 31).map fun i=>tm.getD i undef).toArray:=by
  apply Array.ext
  ·simp[h]
  ·intro i h1 h2
   simp[Array.getD,h1]
 exact e.trans rfl
theorem EF {bb b:Nat}{bs:List Value}{w w':World} (h:Lib.IsBuilder 167 5 bb bb bs w) (hg:w.grownBy w' (some b)) (hb:b<bb):Lib.IsBuilder 167 5 bb bb bs w':=by
 have go:∀p,Lib.BuilderAt 167 5 bb bb p bs w→Lib.BuilderAt 167 5 bb bb p bs w':=fun p h=>by
  have hl:=h.lt
  obtain ⟨h1,v,h2,h3,h4⟩:=h
  refine ⟨h1,v,(hg.block bb hl (by simp;omega)).trans h2,h3.kept hg ?_,h4⟩
  cases e:v.ownBlock with
  |none=>exact .inl rfl
  |some k =>
   refine .inr fun q=>?_
   have:=(h3.lt k e).1
   simp at q
   omega
 exact h.imp (go _) (go _)
theorem A2 {W w w':World}{b lo:Nat} (h:W.grownBy w (some b)) (hb:Below lo w w') (hl:W.heap.size≤lo):W.grownBy w' (some b) :=
 ⟨hb.os.trans h.os,hb.tape.trans h.tape,hb.output.trans h.output,Nat.le_trans h.size hb.size,fun k hk eb=>(hb.block k (by omega)).trans (h.block k hk eb)⟩
theorem gO {P:Program}{c:Code}{Q:Exit→Act→World→Prop} (J:Nat→Act→World→Prop) (round:∀n a w,J n a w→c.wp P (Exit.then (fun a' w'=>∃m,n=m+1∧J m a' w') Q) a w) (n:Nat) (a:Act) (w:World) (h:J n a w):(Code.loop c).wp P Q a w:=by
 refine wp_loop_rounds (n+1) ?_
 induction n generalizing a w with
 |zero =>
  refine Code.wp_mono (fun e a' w' q=>?_) (round 0 a w h)
  cases e<;>first|exact q|(obtain ⟨m,hm,_⟩:=q;omega)
 |succ n ih =>
  refine Code.wp_mono (fun e a' w' q=>?_) (round (n+1) a w h)
  cases e<;>first|exact q|(obtain ⟨m,hm,hj⟩:=q;obtain rfl:n=m:=(by omega);exact ih a' w' hj)
noncomputable def dB:Nat→List UInt8→ax→Except (Int×Int) (List UInt8×ax)
 |0,_,s=>.error (0,s.here.spot)
 |f+1,acc,s=>match bX 4 ⟨#[46]⟩ s with
  |.error e=>.error e
  |.ok (false,s1)=>.ok (acc,s1)
  |.ok (true,s1)=>match aQ s1 with
   |.error e=>.error e
   |.ok (x,s2)=>dB f ((acc++[46])++x.data.toList) s2
noncomputable def oC (first:Int):Except (Int×Int) (List UInt8×ax)→Except (Int×Int) (ByteArray×ax)
 |.error e=>.error e
 |.ok (acc,s)=>if 255<acc.length then .error (2,first) else .ok (⟨acc.toArray⟩,s)
theorem mZ {s s1:ax}{u:Unit} (h:bC s=.ok (u,s1)):s1.ts=s.ts.tail:=by
 unfold bC at h
 split at h
 ·cases h
 ·simp only[Except.ok.injEq,Prod.mk.injEq] at h
  rw[←h.2]
theorem mP {k:Int}{x:ByteArray}{s s1:ax}{f:Bool} (h:bX k x s=.ok (f,s1)):(f=false∧s1=s)∨(f=true∧s1.ts=s.ts.tail∧s.here.kind=k):=by
 unfold bX at h
 split at h
 ·next hp =>
  cases hn:bC s with
  |error e=>rw[hn] at h;cases h
  |ok y =>
   rw[hn] at h
   simp only[Except.ok.injEq,Prod.mk.injEq] at h
   obtain ⟨rfl,rfl⟩:=h
   refine .inr ⟨rfl,mZ (u:=y.1) hn,?_⟩
   unfold aH at hp
   rw[Bool.and_eq_true] at hp
   exact eq_of_beq hp.1
 ·simp only[Except.ok.injEq,Prod.mk.injEq] at h
  exact .inl ⟨h.1.symm,h.2.symm⟩
theorem jy {s s1:ax}{x:ByteArray} (h:aQ s=.ok (x,s1)):s1.ts=s.ts.tail∧x.size≤255∧s.here.kind=1:=by
 unfold aQ at h
 split at h
 ·next hk =>
  split at h
  ·next hf =>
   cases hn:bC s with
   |error e=>rw[hn] at h;cases h
   |ok y =>
    rw[hn] at h
    simp only[Except.ok.injEq,Prod.mk.injEq] at h
    obtain ⟨rfl,rfl⟩:=h
    refine ⟨mZ (u:=y.1) hn,?_,hk⟩
    unfold bM at hf
    split at hf
    ·simp at hf
    ·omega
  ·cases h
 ·cases h
theorem mY {s s1:ax}{u:Unit} (h:bC s=.ok (u,s1)):s1.op=s.op∧s1.en=s.en:=by
 unfold bC at h
 split at h
 ·cases h
 ·simp only[Except.ok.injEq,Prod.mk.injEq] at h
  obtain ⟨_,rfl⟩:=h
  exact ⟨rfl,rfl⟩
theorem Ib {k:Int}{x:ByteArray}{s s1:ax}{f:Bool} (h:bX k x s=.ok (f,s1)):s1.op=s.op∧s1.en=s.en:=by
 unfold bX at h
 split at h
 ·split at h
  ·rename_i hn
   simp only[Except.ok.injEq,Prod.mk.injEq] at h
   obtain ⟨_,rfl⟩:=h
   exact mY hn
  ·cases h
 ·simp only[Except.ok.injEq,Prod.mk.injEq] at h
  obtain ⟨_,rfl⟩:=h
  exact ⟨rfl,rfl⟩
theorem BO {s s1:ax}{x:ByteArray} (h:aQ s=.ok (x,s1)):s1.op=s.op∧s1.en=s.en:=by
 unfold aQ at h
 split at h
 ·split at h
  ·split at h
   ·rename_i hn
    simp only[Except.ok.injEq,Prod.mk.injEq] at h
    obtain ⟨_,rfl⟩:=h
    exact mY hn
   ·cases h
  ·cases h
 ·cases h
theorem Sm.tail {s s1:ax} (h:Sm s) (e:s1.ts=s.ts.tail):Sm s1:=fun t ht=>h t (by rw[e] at ht;exact List.mem_of_mem_tail ht)
structure Dt (lb b bb bt:Nat) (W0:World) (first:Int) (acc:List UInt8) (s:ax) (w:World):Prop where
 rd:Rd lb w b s
 sm:Sm s
 bu:Lib.IsBuilder 167 5 bb bb (Lib.byteCells acc) w
 fst:w.cell? ⟨bt,1,none⟩=some (.int .i64 first)
 gr:W0.grownBy w (some b)
 len:acc.length+300*s.ts.length≤5000000
structure Low (lb b bb bt:Nat) (W0:World):Prop where
 a:lb≤W0.heap.size
 b1:W0.heap.size≤bt
 c:bt<bb
 d:b<lb
theorem Dt.read {lb b bb bt:Nat}{W0 w w':World}{first:Int}{acc:List UInt8}{s s':ax} (h:Dt lb b bb bt W0 first acc s w) (hl:Low lb b bb bt W0) (hr:Rd lb w' b s') (hg:w.grownBy w' (some b)) (hs:Sm s') (hlen:s'.ts.length≤s.ts.length):Dt lb b bb bt W0 first acc s' w' :=
 ⟨hr,hs,EF h.bu hg (by have:=hl.a;have:=hl.b1;have:=hl.c;have:=hl.d;omega),(World.cell?_of_block (a:=⟨bt,1,none⟩) (hg.block bt (World.block_lt_of_cell? w _ h.fst) (by have:=hl.a;have:=hl.b1;have:=hl.d;simp;omega))).trans h.fst,h.gr.trans hg,by have:=h.len;omega⟩
theorem Dt.write {lb b bb bt:Nat}{W0 w w':World}{first:Int}{acc EK:List UInt8}{s:ax} (h:Dt lb b bb bt W0 first acc s w) (hl:Low lb b bb bt W0) (hb:Lib.BuilderAt 167 5 bb bb (.pointer (some ⟨bb,0,none⟩)) (Lib.byteCells EK) w') (hw:Below bb w w') (hlen:EK.length+300*s.ts.length≤5000000):Dt lb b bb bt W0 first EK s w' :=
 ⟨h.rd.Um (hw.mono (by have:=hl.a;have:=hl.b1;have:=hl.c;omega)),h.sm,.inr hb,(hw.cell (p:=⟨bt,1,none⟩) hl.c).trans h.fst,A2 h.gr hw (by have:=hl.b1;have:=hl.c;omega),hlen⟩
theorem Dt.bbw {lb b bb bt:Nat}{W0 w:World}{first:Int}{acc:List UInt8}{s:ax} (h:Dt lb b bb bt W0 first acc s w):bb≤w.heap.size:=by
 rcases h.bu with q|q<;>exact Nat.le_of_lt q.lt
end Go.Proofs.YtjophoclfccmcaaGreatDoor
namespace Go.Proofs.YtjophoclfccmcaaGreatDoor
open Go.RowKit Go.Shelf
attribute [local go_sem ↓] Go.wp_at_zero Go.wp_at_succ
theorem VU:Builder.Extra Tryz.prog Tryz.mz:={
 sizeBuilder:=by kernel_rfl
 liesBuilder:=by kernel_rfl
 t5:=Tryz.underlying5
 a5:=Tryz.isAgg5
 z5:=Tryz.sizeOf5
 v5:=Tryz.zeroValue5
 infoByte:=by kernel_rfl
 cellsByte:=by kernel_rfl
 sizeByte:=by kernel_rfl
 neB5:=by decide }
theorem Pq (B b:Nat) (bs:List Value) (w:World) (h:Lib.IsBuilder 167 5 B b bs w):Calls Tryz.prog 141 #[.pointer (some ⟨b,0,none⟩)] w fun e w'=>e=.returned (.int .i64 bs.length)∧w'=w:=Any.Builder_Len Tryz.BT B b bs w h
theorem EG (B b:Nat) (l:List UInt8) (w:World) (h:Lib.IsBuilder 167 5 B b (Lib.byteCells l) w) (hBw:B≤w.heap.size):Calls Tryz.prog 142 #[.pointer (some ⟨b,0,none⟩)] w fun e w'=>e=.returned (.string ⟨l.toArray⟩)∧Below B w w':=Any.Builder_String_any Tryz.BU VU B b l w h hBw
noncomputable def Cj:Code:=match Tryz.f120.body with
 |some (.seq _ (.seq _ (.seq _ (.seq _ x))))=>x
 |_=>.skip
noncomputable def OY (t:Code):Code:=match Tryz.f120.body with
 |some (.seq a (.seq b (.seq c (.seq d _))))=>.seq a (.seq b (.seq c (.seq d t)))
 |_=>.skip
theorem OX:Tryz.f120.body=some (OY Cj):=rfl
def DtJ (lb b bb bt:Nat) (W0:World) (first:Int) (R0:Except (Int×Int) (ByteArray×ax)) (f:Nat) (a:Act) (w:World):Prop:=∃(tm:Array Value) (acc:List UInt8) (s:ax),a=⟨tm,[]⟩∧tm.size=31∧Jg tm [(0,.pointer (some ⟨b,0,none⟩)),(5,.pointer (some ⟨bt,0,none⟩)),(6,.pointer (some ⟨bb,0,none⟩))]∧Dt lb b bb bt W0 first acc s w∧s.ts.length<f∧R0=oC first (dB f acc s)
noncomputable def iu (first:Int) (acc:List UInt8) (s:ax):Except (Int×Int) (ByteArray×ax):=match aQ s with
 |.error e=>.error e
 |.ok (x,s1)=>oC first (dB (s1.ts.length+1) (acc++x.data.toList) s1)
theorem GX (a b:List UInt8):Lib.byteCells (a++b)=Lib.byteCells a++Lib.byteCells b:=List.map_append
theorem zt (a:List UInt8):(Lib.byteCells a).length=a.length:=List.length_map _
theorem rH (x:ByteArray):x.data.toList.length=x.size:=by rw[Array.length_toList];rfl
theorem nO {s s1:ax} (e:s1.ts=s.ts.tail) (hk:s.en.kind=5) {k:Int} (hh:s.here.kind=k) (h5:k≠5):s1.ts.length+1=s.ts.length:=by
 have:=bP hk (by rw[hh];exact h5)
 rw[e,List.length_tail]
 omega
theorem qq {lb b bb bt:Nat}{W0 W:World}{first:Int}{acc:List UInt8}{s:ax}{R:Ending→World→Prop} (hl:Low lb b bb bt W0) (h:Dt lb b bb bt W0 first acc s W)
  {tm:Array Value} (cl:tm.size=31) (j7:Jg tm [(0,.pointer (some ⟨b,0,none⟩)),(5,.pointer (some ⟨bt,0,none⟩)),(6,.pointer (some ⟨bb,0,none⟩))]) (hR:∀e w,PR lb b W0 Value.string (iu first acc s) e w→R e w):Cj.wp Tryz.prog (bodyPost Tryz.prog Tryz.f120 R) ⟨tm,[]⟩ W:=by
 have HR:=ab hR
 have hc:=ab (kU h.rd h.sm)
 obtain ⟨u,rfl⟩:=IY cl
 obtain ⟨e0,e5,e6,_⟩:=j7
 replace e0:u 0=.pointer (some ⟨b,0,none⟩):=zC e0
 replace e5:u 5=.pointer (some ⟨bt,0,none⟩):=zC e5
 replace e6:u 6=.pointer (some ⟨bb,0,none⟩):=zC e6
 rw[e0,e5,e6]
 have Hd:=ab h
 have HL:=ab hl
 clear e0 e5 e6 cl hR h hl
 obtain ⟨Q,hQ⟩:∃Q,bodyPost Tryz.prog Tryz.f120 R=Q:=⟨_,rfl⟩
 rw[hQ]
 unfold Cj
 dsimp only[Tryz.f120]
 go_wp2_with fail
 refine (aa hc).mono ?_
 intro e w1 hw
 rcases hw.split with ⟨x,hr,rfl,hg⟩|⟨x,s1,hr,rfl,h1,hg⟩
 ·rw[←hQ]
  refine ⟨rfl,aa HR _ _ ?_⟩
  unfold iu
  rw[hr]
  exact ⟨rfl,(aa Hd).gr.trans hg⟩
 ·obtain ⟨n1,n2,n3⟩:=jy hr
  have n4:=nO n1 (aa Hd).rd.grown n3 (by decide)
  have hD1:=(aa Hd).read (aa HL) h1 hg ((aa Hd).sm.tail n1) (by omega)
  have hlen:=(aa Hd).len
  have HD1:=ab hD1
  have HEq:Hid (iu first acc s=oC first (dB (s1.ts.length+1) (acc++x.data.toList) s1)):=by show _=_;unfold iu;rw[hr]
  have ki:=ns bb bb (Lib.byteCells acc) x w1 hD1.bu (by rw[zt];omega) hD1.bbw
  have Lr:=ab ki
  have hxd:=rH x
  clear hw hg h1 hr hD1 ki n1 n3 hc
  go_wp2_with fail
  refine (aa Lr).mono ?_
  rintro e w2 ⟨rfl,bo,Tr⟩
  rw[Lib.strCells_eq,←GX] at bo
  have HD2:=ab ((aa HD1).write (aa HL) bo Tr (by rw[zK,hxd];omega))
  clear bo Tr HD1 Lr Hd
  go_wp2
  refine gO (DtJ lb b bb bt W0 first (iu first acc s)) ?_ (s1.ts.length+1) _ _ ⟨_,_,s1,rfl,rfl,⟨rfl,rfl,rfl,trivial⟩,aa HD2,by omega,aa HEq⟩
  clear HD2 HEq hxd n2 n4 hlen
  rintro f _ wr ⟨tm,ac,sc,rfl,cl,j7,hD,hf,CM⟩
  obtain ⟨u,rfl⟩:=IY cl
  obtain ⟨e0,e5,e6,_⟩:=j7
  replace e0:u 0=.pointer (some ⟨b,0,none⟩):=zC e0
  replace e5:u 5=.pointer (some ⟨bt,0,none⟩):=zC e5
  replace e6:u 6=.pointer (some ⟨bb,0,none⟩):=zC e6
  rw[e0,e5,e6]
  have HD:=ab hD
  have zy:=ab CM
  obtain ⟨f,rfl⟩:∃k,f=k+1:=⟨f-1,by omega⟩
  clear e0 e5 e6 cl hD CM
  go_wp2_with fail
  refine (gp (aa HD).rd _).mono ?_
  intro e w3 hw
  rcases hw.split with ⟨y,hr,rfl,hg⟩|⟨fl,s3,hr,rfl,h3,hg⟩
  ·show Q (Exit.panic _) _ _
   rw[←hQ]
   refine ⟨rfl,aa HR _ _ ?_⟩
   rw[aa zy]
   unfold dB
   rw[hr]
   exact ⟨rfl,(aa HD).gr.trans hg⟩
  ·rcases mP hr with ⟨rfl,rfl⟩|⟨rfl,P0,E6⟩
   ·
    have KL:=(aa HD).read (aa HL) h3 hg (aa HD).sm (zD _)
    have nH:iu first acc s=(if 255<ac.length then .error (2,first) else .ok (⟨ac.toArray⟩,s3)):=by
     rw[aa zy]
     unfold dB
     rw[hr]
     rfl
    have HEq:=ab nH
    have G4:=ab KL
    have hac:=KL.len
    clear hw hr hg h3 KL nH HD zy
    go_wp2_with fail
    refine (Pq bb bb _ w3 (aa G4).bu).mono ?_
    rintro e w4 ⟨rfl,ig⟩
    obtain rfl:w3=w4:=ig.symm
    rw[zt]
    clear ig
    by_cases mB:255<ac.length
    ·have hd:decide ((255:Int)<(ac.length:Int))=true:=by simp;omega
     have Vr:=(aa G4).fst
     have HE:Hid (R (qj 2 first) w3):=aa HR _ _ (by rw[aa HEq,if_pos mB];exact ⟨rfl,(aa G4).gr⟩)
     clear mB
     go_wp2
     rw[←hQ]
     exact ⟨rfl,aa HE⟩
    ·have hd:decide ((255:Int)<(ac.length:Int))=false:=by simp;omega
     have HE:Hid (∀w,Below bb w3 w→R (.returned (.string ⟨ac.toArray⟩)) w):=fun w hb=>aa HR _ _ (by
      rw[aa HEq,if_neg mB]
      exact ⟨rfl,(aa G4).rd.Um (hb.mono (by have:=(aa HL).a;have:=(aa HL).b1;have:=(aa HL).c;omega)),A2 (aa G4).gr hb (by have:=(aa HL).b1;have:=(aa HL).c;omega)⟩)
     clear mB
     go_wp2_with fail
     refine (EG bb bb ac w3 (aa G4).bu (aa G4).bbw).mono ?_
     rintro e w5 ⟨rfl,mE⟩
     have H5:=ab (aa HE w5 mE)
     clear mE
     go_wp2
     rw[←hQ]
     go_ret
     exact aa H5
   ·
    have n4:=nO P0 (aa HD).rd.grown E6 (by decide)
    have KL:=(aa HD).read (aa HL) h3 hg ((aa HD).sm.tail P0) (by omega)
    have hlen:=(aa HD).len
    have Hr:=ab hr
    have G4:=ab KL
    have ig:=pq bb bb (Lib.byteCells ac) 46 w3 KL.bu (by rw[zt];omega) KL.bbw
    have Jp:=ab ig
    clear hw hr hg h3 KL ig HD P0 E6
    go_wp2_with fail
    refine (aa Jp).mono ?_
    rintro e w4 ⟨rfl,fC,D5⟩
    have ZI:Lib.BuilderAt 167 5 bb bb (.pointer (some ⟨bb,0,none⟩)) (Lib.byteCells (ac++[46])) w4:=by rw[GX];exact fC
    have hD4:=(aa G4).write (aa HL) ZI D5 (by rw[zK];simp only[List.length_cons,List.length_nil];omega)
    have Ug:=ab hD4
    have hc4:=ab (kU hD4.rd hD4.sm)
    clear fC ZI D5 hD4 G4 Jp
    go_wp2_with fail
    refine (aa hc4).mono ?_
    intro e w5 hw
    rcases hw.split with ⟨y,hr,rfl,hg⟩|⟨x,s5,hr,rfl,h5,hg⟩
    ·show Q (Exit.panic _) _ _
     rw[←hQ]
     refine ⟨rfl,aa HR _ _ ?_⟩
     rw[aa zy]
     unfold dB
     rw[aa Hr]
     simp only
     rw[hr]
     exact ⟨rfl,(aa Ug).gr.trans hg⟩
    ·obtain ⟨m1,m2,m3⟩:=jy hr
     have m4:=nO m1 (aa Ug).rd.grown m3 (by decide)
     have hD5:=(aa Ug).read (aa HL) h5 hg ((aa Ug).sm.tail m1) (by omega)
     have Ts:=(aa Ug).len
     rw[zK] at Ts
     simp only[List.length_cons,List.length_nil] at Ts
     have HD5:=ab hD5
     have nH:iu first acc s=oC first (dB f ((ac++[46])++x.data.toList) s5):=by
      rw[aa zy]
      conv=>lhs;unfold dB
      rw[aa Hr]
      simp only
      rw[hr]
     have HEq:=ab nH
     have hw6:=ns bb bb (Lib.byteCells (ac++[46])) x w5 hD5.bu (by rw[zt,zK];simp only[List.length_cons,List.length_nil];omega) hD5.bbw
     have HW6:=ab hw6
     have hxd:=rH x
     clear hw hr hg h5 hD5 hw6 nH Ug hc4 m1 m3
     go_wp2_with fail
     refine (aa HW6).mono ?_
     rintro e w6 ⟨rfl,Qa,Tq⟩
     rw[Lib.strCells_eq,←GX] at Qa
     have HD6:=ab ((aa HD5).write (aa HL) Qa Tq (by rw[zK,zK,hxd];simp only[List.length_cons,List.length_nil];omega))
     clear Qa Tq HD5 HW6
     go_wp2
     exact ⟨f,rfl,_,_,s5,rfl,rfl,⟨rfl,rfl,rfl,trivial⟩,aa HD6,by omega,aa HEq⟩
noncomputable def ba (da:Bool) (s:ax):Except (Int×Int) (ByteArray×ax):=match (if da=true then bX 4 ⟨#[46]⟩ s else .ok (false,s)) with
 |.error e=>.error e
 |.ok (d,s1)=>iu s.here.spot (if d=true then [46] else []) s1
theorem EE (w:World):Lib.IsBuilder 167 5 w.heap.size w.heap.size (Lib.byteCells []) (w.alloc (.cells #[.pointer none,.slice none 0 0] 167)) :=
 .inl ⟨zD _,.slice none 0 0,aF _ _,World.ownsRow_nil _ _ _ _,by simp[Value.ownBlock]⟩
theorem nj {lb b:Nat}{W:World}{s:ax} (da:Bool) (h:Rd lb W b s) (hs:Sm s) (hn:s.ts.length≤16384):Calls Tryz.prog 120 #[.pointer (some ⟨b,0,none⟩),.bool da] W (PR lb b W Value.string (ba da s)):=by
 have hc:=ab (fF h)
 have cC:=h.low
 have Hd:=ab h
 have Hs:=ab hs
 obtain ⟨t,ht⟩:∃t,s.here=t:=⟨_,rfl⟩
 rw[ht] at hc
 have HF:Hid (ba da s=(match (if da=true then bX 4 ⟨#[46]⟩ s else .ok (false,s)) with|.error e=>.error e|.ok (d,s1)=>iu t.spot (if d=true then [46] else []) s1)):=by show _=_;unfold ba;rw[ht]
 obtain ⟨kd,sp,tx⟩:=t
 unfold Tk.val at hc
 simp only at hc HF
 clear ht h hs
 refine calls_of_wp Tryz.func120 OX ?_
 obtain ⟨tl,pG⟩:∃t,Cj=t:=⟨_,rfl⟩
 rw[pG]
 obtain ⟨Q,hQ⟩:∃Q,bodyPost Tryz.prog Tryz.f120 (PR lb b W Value.string (ba da s))=Q:=⟨_,rfl⟩
 rw[hQ]
 unfold OY
 dsimp only[Tryz.f120]
 simp only[List.size_toArray,List.length_cons,List.length_nil,Nat.reduceAdd,Nat.reduceSub,Array.replicate_succ,Array.replicate_zero,List.push_toArray,List.append_toArray,List.nil_append,List.cons_append]
 go_wp2_with fail
 refine (aa hc).mono ?_
 rintro e w1 ⟨rfl,bK⟩
 have nG:=bK.size
 have bo:=(bK.alloc nG (.cells #[.int .i64 kd,.int .i64 sp,.string tx] 38)).alloc (by rw[zJ];omega) (.cells #[.pointer none,.slice none 0 0] 167)
 have hL:Low lb b (w1.heap.size+1) w1.heap.size W:=⟨cC.2,nG,by omega,cC.1⟩
 have hbu:=EE (w1.alloc (.cells #[.int .i64 kd,.int .i64 sp,.string tx] 38))
 rw[zJ] at hbu
 have Vr:((w1.alloc (.cells #[.int .i64 kd,.int .i64 sp,.string tx] 38)).alloc (.cells #[.pointer none,.slice none 0 0] 167)).cell? ⟨w1.heap.size,1,none⟩=some (.int .i64 sp):=by
  rw[cell_of_row _ _ _ _ _ _ ((Below.heap_alloc _ _ _ (by rw[zJ];omega)).trans (aF w1 _))]
  rfl
 have hD:Dt lb b (w1.heap.size+1) w1.heap.size W sp [] s ((w1.alloc (.cells #[.int .i64 kd,.int .i64 sp,.string tx] 38)).alloc (.cells #[.pointer none,.slice none 0 0] 167)):=⟨(aa Hd).up bo,aa Hs,hbu,Vr,aD b bo,by simp only[List.length_nil];omega⟩
 have HD:=ab hD
 have HL:=ab hL
 clear bK bo hL hbu Vr hD hc nG cC
 cases da with
 |false =>
  simp only[Bool.false_eq_true,if_false] at HF
  go_wp2
  rw[←pG,←hQ]
  refine qq (aa HL) (aa HD) rfl ⟨rfl,rfl,rfl,trivial⟩ ?_
  intro e w hw
  rw[aa HF]
  exact hw
 |true =>
  simp only[if_true] at HF
  go_wp2_with fail
  refine (gp (aa HD).rd _).mono ?_
  intro e w3 hw
  rcases hw.split with ⟨y,hr,rfl,hg⟩|⟨fl,s3,hr,rfl,h3,hg⟩
  ·show Q (Exit.panic _) _ _
   rw[←hQ]
   refine ⟨rfl,?_⟩
   rw[aa HF,hr]
   exact ⟨rfl,(aa HD).gr.trans hg⟩
  ·have nz:Hid (ba true s=iu sp (if fl=true then [46] else []) s3):=by show _=_;rw[aa HF,hr]
   rcases mP hr with ⟨rfl,rfl⟩|⟨rfl,P0,E6⟩
   ·have G4:=ab ((aa HD).read (aa HL) h3 hg (aa HD).sm (zD _))
    clear hw hr hg h3 HD HF
    go_wp2
    rw[←pG,←hQ]
    refine qq (aa HL) (aa G4) rfl ⟨rfl,rfl,rfl,trivial⟩ ?_
    intro e w hw
    rw[aa nz]
    exact hw
   ·have n4:=nO P0 (aa HD).rd.grown E6 (by decide)
    have KL:=(aa HD).read (aa HL) h3 hg ((aa HD).sm.tail P0) (by omega)
    have G4:=ab KL
    have Jp:=ab (pq (w1.heap.size+1) (w1.heap.size+1) (Lib.byteCells []) 46 w3 KL.bu (by rw[zt];simp) KL.bbw)
    clear hw hr hg h3 KL HD HF P0 E6
    go_wp2_with fail
    refine (aa Jp).mono ?_
    rintro e w4 ⟨rfl,fC,D5⟩
    have Ug:Hid (Dt lb b (w1.heap.size+1) w1.heap.size W sp [46] s3 w4):=(aa G4).write (aa HL) fC D5 (by simp only[List.length_cons,List.length_nil];omega)
    clear fC D5 G4 Jp
    go_wp2
    rw[←pG,←hQ]
    refine qq (aa HL) (aa Ug) rfl ⟨rfl,rfl,rfl,trivial⟩ ?_
    intro e w hw
    rw[aa nz]
    exact hw
structure Fd where
 GS:Int
 key:ByteArray
 ty:ByteArray
 name:ByteArray
 num:Int
 yu:Int
def Fd.arr (d:Fd):Array Value:=#[.int .i64 d.GS,.string d.key,.string d.ty,.string d.name,.int .i64 d.num,.int .i64 d.yu]
def Fd.val (d:Fd):Value:=.agg d.arr
theorem ko:(Tryz.prog.info? 45).map (·.size)=some 6:=by kernel_rfl
noncomputable def AQ (d:Fd) (s:ax):Except (Int×Int) (Fd×ax):=match aQ s with
 |.error e=>.error e
 |.ok (x,s1)=>match eh 0 2147483647 false s1 with
  |.error e=>.error e
  |.ok (n,s2)=>.ok ({ d with name:=x,num:=n },s2)
theorem bG {w:World}{g:Nat}{a0 a1 a2 a3 a4 a5:Value}{t:TypeId} (h:w.heap[g]?=some (.cells #[a0,a1,a2,a3,a4,a5] t (0,0))):(w.cell? ⟨g,0,none⟩=some a0∧w.cell? ⟨g,1,none⟩=some a1∧w.cell? ⟨g,2,none⟩=some a2∧w.cell? ⟨g,3,none⟩=some a3∧w.cell? ⟨g,4,none⟩=some a4∧w.cell? ⟨g,5,none⟩=some a5)∧∀j,w.frozen? ⟨g,j,none⟩=false:=by
 refine ⟨⟨?_,?_,?_,?_,?_,?_⟩,fun j=>by simp[World.frozen?,h]⟩<;>rw[cell_of_row _ _ _ _ _ _ h]<;>rfl
def mo (w:World) (g:Nat) (a0 a1 a2 a3 a4 a5:Value):World:=(((((w.setCell ⟨g,0,none⟩ a0).setCell ⟨g,1,none⟩ a1).setCell ⟨g,2,none⟩ a2).setCell ⟨g,3,none⟩ a3).setCell ⟨g,4,none⟩ a4).setCell ⟨g,5,none⟩ a5
theorem hU {w:World}{g:Nat}{b0 b1 b2 b3 b4 b5:Value}{t:TypeId} (h:w.heap[g]?=some (.cells #[b0,b1,b2,b3,b4,b5] t (0,0))) (a0 a1 a2 a3 a4 a5:Value):(mo w g a0 a1 a2 a3 a4 a5).heap[g]?=some (.cells #[a0,a1,a2,a3,a4,a5] t (0,0))∧w.grownBy (mo w g a0 a1 a2 a3 a4 a5) (some g):=by
 obtain ⟨h0,g0⟩:=aC (j:=0) h a0
 obtain ⟨h1,g1⟩:=aC (j:=1) h0 a1
 obtain ⟨h2,g2⟩:=aC (j:=2) h1 a2
 obtain ⟨h3,g3⟩:=aC (j:=3) h2 a3
 obtain ⟨h4,g4⟩:=aC (j:=4) h3 a4
 obtain ⟨h5,g5⟩:=aC (j:=5) h4 a5
 exact ⟨h5,((((g0.trans g1).trans g2).trans g3).trans g4).trans g5⟩
theorem dO {W w w':World}{b g:Nat} (h:W.grownBy w (some b)) (k:w.grownBy w' (some g)) (hl:W.heap.size≤g):W.grownBy w' (some b) :=
 ⟨k.os.trans h.os,k.tape.trans h.tape,k.output.trans h.output,Nat.le_trans h.size k.size,fun i hi eb=>(k.block i (Nat.lt_of_lt_of_le hi h.size) (by simp;omega)).trans (h.block i hi eb)⟩
theorem hZ {lb b g:Nat}{s:ax}{w w':World} (h:Rd lb w b s) (k:w.grownBy w' (some g)) (hl:lb≤g):Rd lb w' b s :=
 h.Um ((zE lb w).grown k h.low.2 (fun i e=>by simp at e;omega))
theorem xA {V W w:World}{b g:Nat} (h:Env V W b) (k:W.grownBy w (some g)) (hl:V.heap.size≤g):Env V w b :=
 ⟨h.f,h.e,h.m,h.below.grown k h.below.size (fun i e=>by simp at e;omega),h.lo⟩
theorem MZ {lb b:Nat}{V W:World}{s:ax} (d:Fd) (hv:Env V W b) (h:Rd lb W b s) (hs:Sm s):Calls Tryz.prog 175 #[.pointer (some ⟨b,0,none⟩),d.val] W (PR lb b W Fd.val (AQ d s)):=by
 obtain ⟨c0,k0,t0,n0,m0,o0⟩:=d
 have cC:=h.low
 have hVb:=hv.lo
 have bo:Below W.heap.size W ((W.alloc (.cells #[.int .i64 c0,.string k0,.string t0,.string n0,.int .i64 m0,.int .i64 o0] 45)).alloc (.cells #[.int .i64 0,.string ⟨#[]⟩,.string ⟨#[]⟩,.string ⟨#[]⟩,.int .i64 0,.int .i64 0] 45)):=((zE _ _).alloc (zD _) _).alloc (by rw[zJ];omega) _
 have iZ:((W.alloc (.cells #[.int .i64 c0,.string k0,.string t0,.string n0,.int .i64 m0,.int .i64 o0] 45)).alloc (.cells #[.int .i64 0,.string ⟨#[]⟩,.string ⟨#[]⟩,.string ⟨#[]⟩,.int .i64 0,.int .i64 0] 45)).heap[W.heap.size]?=some (.cells #[.int .i64 c0,.string k0,.string t0,.string n0,.int .i64 m0,.int .i64 o0] 45 (0,0)):=(Below.heap_alloc _ _ _ (by rw[zJ];omega)).trans (aF _ _)
 have ew:((W.alloc (.cells #[.int .i64 c0,.string k0,.string t0,.string n0,.int .i64 m0,.int .i64 o0] 45)).alloc (.cells #[.int .i64 0,.string ⟨#[]⟩,.string ⟨#[]⟩,.string ⟨#[]⟩,.int .i64 0,.int .i64 0] 45)).heap[W.heap.size+1]?=some (.cells #[.int .i64 0,.string ⟨#[]⟩,.string ⟨#[]⟩,.string ⟨#[]⟩,.int .i64 0,.int .i64 0] 45 (0,0)):=by
  have:=aF (W.alloc (.cells #[.int .i64 c0,.string k0,.string t0,.string n0,.int .i64 m0,.int .i64 o0] 45)) (.cells #[.int .i64 0,.string ⟨#[]⟩,.string ⟨#[]⟩,.string ⟨#[]⟩,.int .i64 0,.int .i64 0] 45)
  rw[zJ] at this
  exact this
 have hc:=ab (kU (h.up bo) hs)
 have tR:=ab (aD b bo)
 have Hv:=ab (hv.step (aD b bo))
 have LJ:=ab iZ
 have tc:=ab ew
 clear iZ ew bo h hv hs
 unfold Fd.val Fd.arr
 simp only
 go_enter Tryz.func175,Tryz.ntmps175
 go_wp2_with fail
 refine (aa hc).mono ?_
 intro e w1 hw
 rcases hw.split with ⟨y,hr,rfl,hg⟩|⟨x,s1,hr,rfl,h1,hg⟩
 ·refine ⟨rfl,?_⟩
  unfold AQ
  rw[hr]
  exact ⟨rfl,(aa tR).trans hg⟩
 ·have l1:W.heap.size<w1.heap.size:=Nat.lt_of_lt_of_le (zA (aa LJ)).1 hg.size
  have p1:=(hg.block W.heap.size (zA (aa LJ)).1 (by simp;omega)).trans (aa LJ)
  have p2:=(hg.block (W.heap.size+1) (zA (aa tc)).1 (by simp;omega)).trans (aa tc)
  obtain ⟨⟨y0,y1,y2,y3,y4,y5⟩,yf⟩:=bG p1
  have f3:=yf 3
  obtain ⟨q1,g1⟩:=aC (j:=3) p1 (.string x)
  have q2:=(g1.block (W.heap.size+1) (zA p2).1 (by simp)).trans p2
  have NX:=hZ h1 g1 (by omega)
  have tF:=xA ((aa Hv).step hg) g1 (by omega)
  have lQ:=dO ((aa tR).trans hg) g1 (zD _)
  have Hr:=ab hr
  have HC:=ab (rO 0 2147483647 false tF NX)
  have Q1:=ab q1
  have Q2:=ab q2
  have td:=ab lQ
  clear hw hr hg h1 p1 p2 yf q1 q2 g1 NX tF lQ LJ tc tR hc l1
  go_wp2_with fail
  refine (aa HC).mono ?_
  intro e w2 hw
  rcases hw.split with ⟨y,hr,rfl,hg⟩|⟨n,s2,hr,rfl,h2,hg⟩
  ·refine ⟨rfl,?_⟩
   unfold AQ
   rw[aa Hr]
   simp only
   rw[hr]
   exact ⟨rfl,(aa td).trans hg⟩
  ·have p1:=(hg.block W.heap.size (zA (aa Q1)).1 (by simp;omega)).trans (aa Q1)
   have p2:=(hg.block (W.heap.size+1) (zA (aa Q2)).1 (by simp;omega)).trans (aa Q2)
   simp only[zN,zM] at p1
   obtain ⟨⟨z0,z1,z2,z3,z4,z5⟩,zf⟩:=bG p1
   have f4:=zf 4
   obtain ⟨q1,g1⟩:=aC (j:=4) p1 (.int .i64 n)
   have q2:=(g1.block (W.heap.size+1) (zA p2).1 (by simp)).trans p2
   simp only[zN,zM] at q1
   obtain ⟨⟨u0,u1,u2,u3,u4,u5⟩,_⟩:=bG q1
   obtain ⟨⟨v0,v1,v2,v3,v4,v5⟩,vf⟩:=bG q2
   have e0:=vf 0
   have e1:=vf 1
   have e2:=vf 2
   have e3:=vf 3
   have e4:=vf 4
   have e5:=vf 5
   obtain ⟨r1,r2⟩:=hU q2 (.int .i64 c0) (.string k0) (.string t0) (.string x) (.int .i64 n) (.int .i64 o0)
   have HE:Hid (PR lb b W Fd.val (AQ ⟨c0,k0,t0,n0,m0,o0⟩ s) (.returned (.agg #[.int .i64 c0,.string k0,.string t0,.string x,.int .i64 n,.int .i64 o0])) (mo (w2.setCell ⟨W.heap.size,4,none⟩ (.int .i64 n)) (W.heap.size+1) (.int .i64 c0) (.string k0) (.string t0) (.string x) (.int .i64 n) (.int .i64 o0))):=by
    show PR lb b W Fd.val (AQ ⟨c0,k0,t0,n0,m0,o0⟩ s) _ _
    unfold AQ
    rw[aa Hr]
    simp only
    rw[hr]
    exact ⟨rfl,hZ (hZ h2 g1 (by omega)) r2 (by omega),dO (dO ((aa td).trans hg) g1 (zD _)) r2 (by omega)⟩
   have R1:=ab r1
   unfold mo at HE R1
   clear hw hr hg h2 p1 p2 zf q1 q2 g1 vf r1 r2 HC Q1 Q2 td Hr Hv
   unfold sG
   go_wp2
   exact bodyPost_ret (results_cell_row rfl _ _ (W.heap.size+1) 45 #[.int .i64 c0,.string k0,.string t0,.string x,.int .i64 n,.int .i64 o0] (0,0) _ rfl (aa R1) Tryz.underlying45 rfl ko) rfl (aa HE)
def jj (s s1:ax):Prop:=∃k,s1.ts=s.ts.drop k∧s1.op=s.op∧s1.en=s.en
theorem jj.refl (s:ax):jj s s:=⟨0,rfl,rfl,rfl⟩
theorem jj.trans {a b c:ax} (h:jj a b) (k:jj b c):jj a c:=by
 obtain ⟨m,h,h1,h2⟩:=h
 obtain ⟨n,k,k1,k2⟩:=k
 exact ⟨m+n,by rw[k,h,List.drop_drop],k1.trans h1,k2.trans h2⟩
theorem jj.tail {s s1:ax} (h:s1.ts=s.ts.tail) (ho:s1.op=s.op∧s1.en=s.en):jj s s1:=⟨1,by rw[h,List.drop_one],ho⟩
theorem jj.op {s s1:ax} (h:jj s s1):s1.op=s.op:=by
 obtain ⟨_,_,h,_⟩:=h
 exact h
theorem jj.len {s s1:ax} (h:jj s s1):s1.ts.length≤s.ts.length:=by
 obtain ⟨k,h,_⟩:=h
 rw[h,List.length_drop]
 omega
theorem jj.sm {s s1:ax} (h:jj s s1) (k:Sm s):Sm s1:=by
 obtain ⟨n,h,_⟩:=h
 intro t ht
 rw[h] at ht
 exact k t (List.mem_of_mem_drop ht)
theorem dU {k:Int}{x:ByteArray}{s s1:ax}{f:Bool} (h:bX k x s=.ok (f,s1)):jj s s1:=by
 rcases mP h with ⟨_,rfl⟩|⟨_,h1,_⟩
 ·exact .refl _
 ·exact .tail h1 (Ib h)
theorem Dj:∀(f:Nat) (acc:List UInt8) (s:ax) {r:List UInt8}{s1:ax},dB f acc s=.ok (r,s1)→jj s s1
 |0,acc,s,r,s1,h=>by unfold dB at h;cases h
 |f+1,acc,s,r,s1,h=>by
  unfold dB at h
  cases ht:bX 4 ⟨#[46]⟩ s with
  |error e=>rw[ht] at h;cases h
  |ok y =>
   obtain ⟨fl,s2⟩:=y
   rw[ht] at h
   cases fl with
   |false =>
    simp only[Except.ok.injEq,Prod.mk.injEq] at h
    rw[←h.2]
    exact dU ht
   |true =>
    simp only at h
    cases hn:aQ s2 with
    |error e=>rw[hn] at h;cases h
    |ok z =>
     rw[hn] at h
     exact ((dU ht).trans (.tail (jy hn).1 (BO hn))).trans (Dj f _ _ h)
theorem AJ {first:Int}{acc:List UInt8}{s s1:ax}{x:ByteArray} (h:iu first acc s=.ok (x,s1)):jj s s1:=by
 unfold iu at h
 cases hn:aQ s with
 |error e=>rw[hn] at h;cases h
 |ok z =>
  rw[hn] at h
  simp only at h
  cases hl:dB (z.2.ts.length+1) (acc++z.1.data.toList) z.2 with
  |error e=>rw[hl] at h;cases h
  |ok y =>
   rw[hl] at h
   unfold oC at h
   simp only at h
   split at h
   ·cases h
   ·simp only[Except.ok.injEq,Prod.mk.injEq] at h
    rw[←h.2]
    exact (jj.tail (jy hn).1 (BO hn)).trans (Dj _ _ _ hl)
theorem fu {da:Bool}{s s1:ax}{x:ByteArray} (h:ba da s=.ok (x,s1)):jj s s1:=by
 unfold ba at h
 cases da with
 |false =>
  simp only[Bool.false_eq_true,if_false] at h
  exact AJ h
 |true =>
  simp only[if_true] at h
  cases ht:bX 4 ⟨#[46]⟩ s with
  |error e=>rw[ht] at h;cases h
  |ok y =>
   rw[ht] at h
   exact (dU ht).trans (AJ h)
noncomputable def gK (d:Fd) (s:ax):Except (Int×Int) (Fd×ax):=match ba true s with
 |.error e=>.error e
 |.ok (x,s1)=>AQ { d with ty:=x } s1
theorem tK {lb b:Nat}{V W:World}{s:ax} (d:Fd) (hv:Env V W b) (h:Rd lb W b s) (hs:Sm s) (hn:s.ts.length≤16384):Calls Tryz.prog 155 #[.pointer (some ⟨b,0,none⟩),d.val] W (PR lb b W Fd.val (gK d s)):=by
 obtain ⟨c0,k0,t0,n0,m0,o0⟩:=d
 have cC:=h.low
 have hVb:=hv.lo
 have bo:Below W.heap.size W ((W.alloc (.cells #[.int .i64 c0,.string k0,.string t0,.string n0,.int .i64 m0,.int .i64 o0] 45)).alloc (.cells #[.int .i64 0,.string ⟨#[]⟩,.string ⟨#[]⟩,.string ⟨#[]⟩,.int .i64 0,.int .i64 0] 45)):=((zE _ _).alloc (zD _) _).alloc (by rw[zJ];omega) _
 have iZ:((W.alloc (.cells #[.int .i64 c0,.string k0,.string t0,.string n0,.int .i64 m0,.int .i64 o0] 45)).alloc (.cells #[.int .i64 0,.string ⟨#[]⟩,.string ⟨#[]⟩,.string ⟨#[]⟩,.int .i64 0,.int .i64 0] 45)).heap[W.heap.size]?=some (.cells #[.int .i64 c0,.string k0,.string t0,.string n0,.int .i64 m0,.int .i64 o0] 45 (0,0)):=(Below.heap_alloc _ _ _ (by rw[zJ];omega)).trans (aF _ _)
 have ew:((W.alloc (.cells #[.int .i64 c0,.string k0,.string t0,.string n0,.int .i64 m0,.int .i64 o0] 45)).alloc (.cells #[.int .i64 0,.string ⟨#[]⟩,.string ⟨#[]⟩,.string ⟨#[]⟩,.int .i64 0,.int .i64 0] 45)).heap[W.heap.size+1]?=some (.cells #[.int .i64 0,.string ⟨#[]⟩,.string ⟨#[]⟩,.string ⟨#[]⟩,.int .i64 0,.int .i64 0] 45 (0,0)):=by
  have:=aF (W.alloc (.cells #[.int .i64 c0,.string k0,.string t0,.string n0,.int .i64 m0,.int .i64 o0] 45)) (.cells #[.int .i64 0,.string ⟨#[]⟩,.string ⟨#[]⟩,.string ⟨#[]⟩,.int .i64 0,.int .i64 0] 45)
  rw[zJ] at this
  exact this
 have hc:=ab (nj true (h.up bo) hs hn)
 have tR:=ab (aD b bo)
 have Hv:=ab (hv.step (aD b bo))
 have LJ:=ab iZ
 have tc:=ab ew
 have HS:=ab hs
 clear iZ ew bo h hv hs
 unfold Fd.val Fd.arr
 simp only
 go_enter Tryz.func155,Tryz.ntmps155
 go_wp2_with fail
 refine (aa hc).mono ?_
 intro e w1 hw
 rcases hw.split with ⟨y,hr,rfl,hg⟩|⟨x,s1,hr,rfl,h1,hg⟩
 ·refine ⟨rfl,?_⟩
  unfold gK
  rw[hr]
  exact ⟨rfl,(aa tR).trans hg⟩
 ·have p1:=(hg.block W.heap.size (zA (aa LJ)).1 (by simp;omega)).trans (aa LJ)
  have p2:=(hg.block (W.heap.size+1) (zA (aa tc)).1 (by simp;omega)).trans (aa tc)
  obtain ⟨⟨y0,y1,y2,y3,y4,y5⟩,yf⟩:=bG p1
  have f2:=yf 2
  obtain ⟨q1,g1⟩:=aC (j:=2) p1 (.string x)
  have q2:=(g1.block (W.heap.size+1) (zA p2).1 (by simp)).trans p2
  simp only[zN,zM] at q1
  obtain ⟨⟨u0,u1,u2,u3,u4,u5⟩,_⟩:=bG q1
  have NX:=hZ h1 g1 (by omega)
  have tF:=xA ((aa Hv).step hg) g1 (by omega)
  have lQ:=dO ((aa tR).trans hg) g1 (zD _)
  have Hr:=ab hr
  have HC:=ab (MZ ⟨c0,k0,x,n0,m0,o0⟩ tF NX ((fu hr).sm (aa HS)))
  have Q2:=ab q2
  have td:=ab lQ
  unfold Fd.val Fd.arr at HC
  simp only at HC
  clear hw hr hg h1 p1 p2 yf q1 q2 g1 NX tF lQ LJ tc tR hc
  go_wp2_with fail
  refine (aa HC).mono ?_
  intro e w2 hw
  rcases hw.split with ⟨y,hr,rfl,hg⟩|⟨d2,s2,hr,rfl,h2,hg⟩
  ·refine ⟨rfl,?_⟩
   unfold gK
   rw[aa Hr]
   simp only
   rw[hr]
   exact ⟨rfl,(aa td).trans hg⟩
  ·obtain ⟨c9,k9,t9,n9,m9,o9⟩:=d2
   simp only
   have p2:=(hg.block (W.heap.size+1) (zA (aa Q2)).1 (by simp;omega)).trans (aa Q2)
   obtain ⟨⟨v0,v1,v2,v3,v4,v5⟩,vf⟩:=bG p2
   have e0:=vf 0
   have e1:=vf 1
   have e2:=vf 2
   have e3:=vf 3
   have e4:=vf 4
   have e5:=vf 5
   obtain ⟨r1,r2⟩:=hU p2 (.int .i64 c9) (.string k9) (.string t9) (.string n9) (.int .i64 m9) (.int .i64 o9)
   have HE:Hid (PR lb b W Fd.val (gK ⟨c0,k0,t0,n0,m0,o0⟩ s) (.returned (.agg #[.int .i64 c9,.string k9,.string t9,.string n9,.int .i64 m9,.int .i64 o9])) (mo w2 (W.heap.size+1) (.int .i64 c9) (.string k9) (.string t9) (.string n9) (.int .i64 m9) (.int .i64 o9))):=by
    show PR lb b W Fd.val (gK ⟨c0,k0,t0,n0,m0,o0⟩ s) _ _
    unfold gK
    rw[aa Hr]
    simp only
    rw[hr]
    exact ⟨rfl,hZ h2 r2 (by omega),dO ((aa td).trans hg) r2 (by omega)⟩
   have R1:=ab r1
   unfold mo at HE R1
   clear hw hr hg h2 p2 vf r1 r2 HC Q2 td Hr Hv u0 u1 u2 u3 u4 u5 y0 y1 y2 y3 y4 y5 f2
   go_wp2
   exact bodyPost_ret (results_cell_row rfl _ _ (W.heap.size+1) 45 #[.int .i64 c9,.string k9,.string t9,.string n9,.int .i64 m9,.int .i64 o9] (0,0) _ rfl (aa R1) Tryz.underlying45 rfl ko) rfl (aa HE)
end Go.Proofs.YtjophoclfccmcaaGreatDoor

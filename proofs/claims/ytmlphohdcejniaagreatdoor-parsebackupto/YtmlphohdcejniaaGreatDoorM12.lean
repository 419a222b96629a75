import Derived.Test.YtmlphohdcejniaaGreatDoorM11
set_option maxHeartbeats 4000000
set_option maxRecDepth 100000
namespace Go.Proofs
open Go.Shelf
def Tryz.lh:Go.Shelf.Ren:=⟨fun|169=>149|n=>n,fun|70=>186|9=>9|0=>0|72=>188|37=>54|127=>118|3=>3|5=>5|n=>n,fun|n=>n⟩
theorem Tryz.Ab:Go.Proofs.Lays.n169 Tryz.prog Tryz.lh:={
 mixed:=by kernel_rfl
 f169:=Tryz.func149.trans (congrArg some (by kernel_rfl))
 t0:=Tryz.underlying0
 a0:=Tryz.isAgg0
 z0:=Tryz.sizeOf0
 v0:=Tryz.zeroValue0
 t3:=Tryz.underlying3
 a3:=Tryz.isAgg3
 z3:=Tryz.sizeOf3
 v3:=Tryz.zeroValue3
 t9:=Tryz.underlying9
 a9:=Tryz.isAgg9
 z9:=Tryz.sizeOf9
 v9:=Tryz.zeroValue9
 t37:=Tryz.underlying54
 a37:=Tryz.isAgg54
 z37:=Tryz.sizeOf54
 v37:=Tryz.zeroValue54
 t70:=Tryz.underlying186
 a70:=Tryz.isAgg186
 z70:=Tryz.sizeOf186
 v70:=Tryz.zeroValue186
 t72:=Tryz.underlying188
 a72:=Tryz.isAgg188
 z72:=Tryz.sizeOf188
 v72:=Tryz.zeroValue188
 t127:=Tryz.underlying118
 a127:=Tryz.isAgg118
 z127:=Tryz.sizeOf118
 v127:=Tryz.zeroValue118 }
def Tryz.qw:Go.Shelf.Ren:=⟨fun|170=>148|n=>n,fun|70=>186|3=>3|0=>0|72=>188|37=>54|5=>5|n=>n,fun|n=>n⟩
theorem Tryz.Aa:Go.Proofs.Lays.n170 Tryz.prog Tryz.qw:={
 mixed:=by kernel_rfl
 f170:=Tryz.func148.trans (congrArg some (by kernel_rfl))
 t0:=Tryz.underlying0
 a0:=Tryz.isAgg0
 z0:=Tryz.sizeOf0
 v0:=Tryz.zeroValue0
 t3:=Tryz.underlying3
 a3:=Tryz.isAgg3
 z3:=Tryz.sizeOf3
 v3:=Tryz.zeroValue3
 t37:=Tryz.underlying54
 a37:=Tryz.isAgg54
 z37:=Tryz.sizeOf54
 v37:=Tryz.zeroValue54
 t70:=Tryz.underlying186
 a70:=Tryz.isAgg186
 z70:=Tryz.sizeOf186
 v70:=Tryz.zeroValue186
 t72:=Tryz.underlying188
 a72:=Tryz.isAgg188
 z72:=Tryz.sizeOf188
 v72:=Tryz.zeroValue188 }
end Go.Proofs
namespace Go.Proofs.YtmlphohdcejniaaGreatDoor
open Go.RowKit
attribute [local go_sem ↓] Go.wp_at_zero Go.wp_at_succ
theorem F4 {tm:Array Value} (h:tm.size=31):∃u:Nat→Value,tm=#[u 0,u 1,u 2,u 3,u 4,u 5,u 6,u 7,u 8,u 9,u 10,u 11,u 12,u 13,u 14,u 15,u 16,u 17,u 18,u 19,u 20,u 21,u 22,u 23,u 24,u 25,u 26,u 27,u 28,u 29,u 30]:=by
 refine ⟨fun i=>tm.getD i undef,?_⟩
 have e:tm=((List.range 31).map fun i=>tm.getD i undef).toArray:=by
  apply Array.ext
  ·simp[h]
  ·intro i h1 h2
   simp[Array.getD,h1]
 exact e.trans rfl
theorem CU {bb b:Nat}{bs:List Value}{w w':World} (h:Lib.IsBuilder 188 5 bb bb bs w) (hg:w.grownBy w' (some b)) (hb:b<bb):Lib.IsBuilder 188 5 bb bb bs w':=by
 have go:∀p,Lib.BuilderAt 188 5 bb bb p bs w→Lib.BuilderAt 188 5 bb bb p bs w':=fun p h=>by
  have hl:=h.lt
  obtain ⟨h1,v,h2,h3,h4⟩:=h
  refine ⟨h1,v,(hg.block bb hl (by simp;omega)).trans h2,h3.kept hg ?_,h4⟩
  cases e:v.ownBlock with
  |none=>exact .inl rfl
  |some k =>
   refine .inr fun q=>?_
   have:=(h3.lt k e).1
   simp at q
   omega
 exact h.imp (go _) (go _)
theorem yF {W w w':World}{b lo:Nat} (h:W.grownBy w (some b)) (hb:Below lo w w') (hl:W.heap.size≤lo):W.grownBy w' (some b) :=
 ⟨hb.os.trans h.os,hb.tape.trans h.tape,hb.output.trans h.output,Nat.le_trans h.size hb.size,fun k hk eo=>(hb.block k (by omega)).trans (h.block k hk eo)⟩
theorem fV {P:Program}{c:Code}{Q:Exit→Act→World→Prop} (J:Nat→Act→World→Prop) (round:∀n a w,J n a w→c.wp P (Exit.then (fun a' w'=>∃m,n=m+1∧J m a' w') Q) a w) (n:Nat) (a:Act) (w:World) (h:J n a w):(Code.loop c).wp P Q a w:=by
 refine wp_loop_rounds (n+1) ?_
 induction n generalizing a w with
 |zero =>
  refine Code.wp_mono (fun e a' w' q=>?_) (round 0 a w h)
  cases e<;>first|exact q|(obtain ⟨m,hm,_⟩:=q;omega)
 |succ n ih =>
  refine Code.wp_mono (fun e a' w' q=>?_) (round (n+1) a w h)
  cases e<;>first|exact q|(obtain ⟨m,hm,hj⟩:=q;obtain rfl:n=m:=(by omega);exact ih a' w' hj)
noncomputable def ew:Nat→List UInt8→aI→Except (Int×Int) (List UInt8×aI)
 |0,_,_=>.error (0,0)
 |f+1,acc,s=>match cw 4 ⟨#[46]⟩ s with
  |.error e=>.error e
  |.ok (false,s1)=>.ok (acc,s1)
  |.ok (true,s1)=>match cq s1 with
   |.error e=>.error e
   |.ok (x,s2)=>ew f ((acc++[46])++x.data.toList) s2
noncomputable def qO (first:Int):Except (Int×Int) (List UInt8×aI)→Except (Int×Int) (ByteArray×aI)
 |.error e=>.error e
 |.ok (acc,s)=>if 255<acc.length then .error (2,first) else .ok (⟨acc.toArray⟩,s)
theorem nj {s s1:aI}{u:Unit} (h:bE s=.ok (u,s1)):s1.ts=s.ts.tail:=by
 unfold bE at h
 split at h
 ·cases h
 ·simp only[Except.ok.injEq,Prod.mk.injEq] at h
  rw[←h.2]
theorem lH {k:Int}{x:ByteArray}{s s1:aI}{f:Bool} (h:cw k x s=.ok (f,s1)):(f=false∧s1=s)∨(f=true∧s1.ts=s.ts.tail∧s.here.kind=k):=by
 unfold cw at h
 split at h
 ·next hp =>
  cases hn:bE s with
  |error e=>rw[hn] at h;cases h
  |ok y =>
   rw[hn] at h
   simp only[Except.ok.injEq,Prod.mk.injEq] at h
   obtain ⟨rfl,rfl⟩:=h
   refine .inr ⟨rfl,nj (u:=y.1) hn,?_⟩
   unfold dD at hp
   rw[Bool.and_eq_true] at hp
   exact eq_of_beq hp.1
 ·simp only[Except.ok.injEq,Prod.mk.injEq] at h
  exact .inl ⟨h.1.symm,h.2.symm⟩
theorem nk {s s1:aI}{x:ByteArray} (h:cq s=.ok (x,s1)):s1.ts=s.ts.tail∧x.size≤255∧s.here.kind=1:=by
 unfold cq at h
 split at h
 ·next hk =>
  split at h
  ·next hf =>
   cases hn:bE s with
   |error e=>rw[hn] at h;cases h
   |ok y =>
    rw[hn] at h
    simp only[Except.ok.injEq,Prod.mk.injEq] at h
    obtain ⟨rfl,rfl⟩:=h
    refine ⟨nj (u:=y.1) hn,?_,hk⟩
    unfold bZ at hf
    split at hf
    ·simp at hf
    ·omega
  ·cases h
 ·cases h
theorem lQ {s s1:aI}{u:Unit} (h:bE s=.ok (u,s1)):s1.op=s.op∧s1.en=s.en:=by
 unfold bE at h
 split at h
 ·cases h
 ·simp only[Except.ok.injEq,Prod.mk.injEq] at h
  obtain ⟨_,rfl⟩:=h
  exact ⟨rfl,rfl⟩
theorem Fg {k:Int}{x:ByteArray}{s s1:aI}{f:Bool} (h:cw k x s=.ok (f,s1)):s1.op=s.op∧s1.en=s.en:=by
 unfold cw at h
 split at h
 ·split at h
  ·rename_i hn
   simp only[Except.ok.injEq,Prod.mk.injEq] at h
   obtain ⟨_,rfl⟩:=h
   exact lQ hn
  ·cases h
 ·simp only[Except.ok.injEq,Prod.mk.injEq] at h
  obtain ⟨_,rfl⟩:=h
  exact ⟨rfl,rfl⟩
theorem zY {s s1:aI}{x:ByteArray} (h:cq s=.ok (x,s1)):s1.op=s.op∧s1.en=s.en:=by
 unfold cq at h
 split at h
 ·split at h
  ·split at h
   ·rename_i hn
    simp only[Except.ok.injEq,Prod.mk.injEq] at h
    obtain ⟨_,rfl⟩:=h
    exact lQ hn
   ·cases h
  ·cases h
 ·cases h
theorem Sm.tail {s s1:aI} (h:Sm s) (e:s1.ts=s.ts.tail):Sm s1:=fun t ht=>h t (by rw[e] at ht;exact List.mem_of_mem_tail ht)
structure Dt (lb b bb bt:Nat) (W0:World) (first:Int) (acc:List UInt8) (s:aI) (w:World):Prop where
 rd:Rd lb w b s
 sm:Sm s
 bu:Lib.IsBuilder 188 5 bb bb (Lib.byteCells acc) w
 fst:w.cell? ⟨bt,1,none⟩=some (.int .i64 first)
 gr:W0.grownBy w (some b)
 len:acc.length+300*s.ts.length≤5000000
structure ZK (lb b bb bt:Nat) (W0:World):Prop where
 a:lb≤W0.heap.size
 b1:W0.heap.size≤bt
 c:bt<bb
 d:b<lb
theorem Dt.read {lb b bb bt:Nat}{W0 w w':World}{first:Int}{acc:List UInt8}{s s':aI} (h:Dt lb b bb bt W0 first acc s w) (hl:ZK lb b bb bt W0) (hr:Rd lb w' b s') (hg:w.grownBy w' (some b)) (hs:Sm s') (hlen:s'.ts.length≤s.ts.length):Dt lb b bb bt W0 first acc s' w' :=
 ⟨hr,hs,CU h.bu hg (by have:=hl.a;have:=hl.b1;have:=hl.c;have:=hl.d;omega),(World.cell?_of_block (a:=⟨bt,1,none⟩) (hg.block bt (World.block_lt_of_cell? w _ h.fst) (by have:=hl.a;have:=hl.b1;have:=hl.d;simp;omega))).trans h.fst,h.gr.trans hg,by have:=h.len;omega⟩
theorem Dt.write {lb b bb bt:Nat}{W0 w w':World}{first:Int}{acc TN:List UInt8}{s:aI} (h:Dt lb b bb bt W0 first acc s w) (hl:ZK lb b bb bt W0) (hb:Lib.BuilderAt 188 5 bb bb (.pointer (some ⟨bb,0,none⟩)) (Lib.byteCells TN) w') (hw:Below bb w w') (hlen:TN.length+300*s.ts.length≤5000000):Dt lb b bb bt W0 first TN s w' :=
 ⟨h.rd.Rp (hw.mono (by have:=hl.a;have:=hl.b1;have:=hl.c;omega)),h.sm,.inr hb,(hw.cell (p:=⟨bt,1,none⟩) hl.c).trans h.fst,yF h.gr hw (by have:=hl.b1;have:=hl.c;omega),hlen⟩
theorem Dt.XJ {lb b bb bt:Nat}{W0 w:World}{first:Int}{acc:List UInt8}{s:aI} (h:Dt lb b bb bt W0 first acc s w):bb≤w.heap.size:=by
 rcases h.bu with q|q<;>exact Nat.le_of_lt q.lt
end Go.Proofs.YtmlphohdcejniaaGreatDoor
namespace Go.Proofs.YtmlphohdcejniaaGreatDoor
open Go.RowKit Go.Shelf
attribute [local go_sem ↓] Go.wp_at_zero Go.wp_at_succ
theorem To:Builder.Extra Tryz.prog Tryz.lh:={
 sizeBuilder:=by kernel_rfl
 liesBuilder:=by kernel_rfl
 t5:=Tryz.underlying5
 a5:=Tryz.isAgg5
 z5:=Tryz.sizeOf5
 v5:=Tryz.zeroValue5
 infoByte:=by kernel_rfl
 cellsByte:=by kernel_rfl
 sizeByte:=by kernel_rfl
 neB5:=by decide }
theorem MX (B b:Nat) (bs:List Value) (w:World) (h:Lib.IsBuilder 188 5 B b bs w):Calls Tryz.prog 148 #[.pointer (some ⟨b,0,none⟩)] w fun e w'=>e=.returned (.int .i64 bs.length)∧w'=w:=Any.Builder_Len Tryz.Aa B b bs w h
theorem CV (B b:Nat) (l:List UInt8) (w:World) (h:Lib.IsBuilder 188 5 B b (Lib.byteCells l) w) (hBw:B≤w.heap.size):Calls Tryz.prog 149 #[.pointer (some ⟨b,0,none⟩)] w fun e w'=>e=.returned (.string ⟨l.toArray⟩)∧Below B w w':=Any.Builder_String_any Tryz.Ab To B b l w h hBw
noncomputable def AB:Code:=match Tryz.f119.body with
 |some (.seq _ (.seq _ (.seq _ (.seq _ x))))=>x
 |_=>.skip
noncomputable def Mu (t:Code):Code:=match Tryz.f119.body with
 |some (.seq a (.seq b (.seq c (.seq d _))))=>.seq a (.seq b (.seq c (.seq d t)))
 |_=>.skip
theorem Mt:Tryz.f119.body=some (Mu AB):=rfl
def DtJ (lb b bb bt:Nat) (W0:World) (first:Int) (R0:Except (Int×Int) (ByteArray×aI)) (f:Nat) (a:Act) (w:World):Prop:=∃(tm:Array Value) (acc:List UInt8) (s:aI),a=⟨tm,[]⟩∧tm.size=31∧Gh tm [(0,.pointer (some ⟨b,0,none⟩)),(5,.pointer (some ⟨bt,0,none⟩)),(6,.pointer (some ⟨bb,0,none⟩))]∧Dt lb b bb bt W0 first acc s w∧s.ts.length<f∧R0=qO first (ew f acc s)
noncomputable def gw (first:Int) (acc:List UInt8) (s:aI):Except (Int×Int) (ByteArray×aI):=match cq s with
 |.error e=>.error e
 |.ok (x,s1)=>qO first (ew (s1.ts.length+1) (acc++x.data.toList) s1)
theorem EW (a b:List UInt8):Lib.byteCells (a++b)=Lib.byteCells a++Lib.byteCells b:=List.map_append
theorem wY (a:List UInt8):(Lib.byteCells a).length=a.length:=List.length_map _
theorem CH (x:ByteArray):x.data.toList.length=x.size:=by rw[Array.length_toList];rfl
theorem mF {s s1:aI} (e:s1.ts=s.ts.tail) (hk:s.en.kind=5) {k:Int} (hh:s.here.kind=k) (h5:k≠5):s1.ts.length+1=s.ts.length:=by
 have:=bP hk (by rw[hh];exact h5)
 rw[e,List.length_tail]
 omega
theorem oG {lb b bb bt:Nat}{W0 W:World}{first:Int}{acc:List UInt8}{s:aI}{R:Ending→World→Prop} (hl:ZK lb b bb bt W0) (h:Dt lb b bb bt W0 first acc s W)
  {tm:Array Value} (bR:tm.size=31) (je:Gh tm [(0,.pointer (some ⟨b,0,none⟩)),(5,.pointer (some ⟨bt,0,none⟩)),(6,.pointer (some ⟨bb,0,none⟩))]) (hR:∀e w,PR lb b W0 Value.string (gw first acc s) e w→R e w):AB.wp Tryz.prog (bodyPost Tryz.prog Tryz.f119 R) ⟨tm,[]⟩ W:=by
 have HR:=aj hR
 have hc:=aj (j5 h.rd h.sm)
 obtain ⟨u,rfl⟩:=F4 bR
 obtain ⟨e0,e5,e6,_⟩:=je
 replace e0:u 0=.pointer (some ⟨b,0,none⟩):=zC e0
 replace e5:u 5=.pointer (some ⟨bt,0,none⟩):=zC e5
 replace e6:u 6=.pointer (some ⟨bb,0,none⟩):=zC e6
 rw[e0,e5,e6]
 have Hd:=aj h
 have HL:=aj hl
 clear e0 e5 e6 bR hR h hl
 obtain ⟨Q,hQ⟩:∃Q,bodyPost Tryz.prog Tryz.f119 R=Q:=⟨_,rfl⟩
 rw[hQ]
 unfold AB
 dsimp only[Tryz.f119]
 go_wp2_with fail
 refine (aa hc).mono ?_
 intro e w1 hw
 rcases hw.split with ⟨x,hr,rfl,hg⟩|⟨x,s1,hr,rfl,h1,hg⟩
 ·rw[←hQ]
  refine ⟨rfl,aa HR _ _ ?_⟩
  unfold gw
  rw[hr]
  exact ⟨rfl,(aa Hd).gr.trans hg⟩
 ·obtain ⟨n1,n2,n3⟩:=nk hr
  have n4:=mF n1 (aa Hd).rd.grown n3 (by decide)
  have Zx:=(aa Hd).read (aa HL) h1 hg ((aa Hd).sm.tail n1) (by omega)
  have hlen:=(aa Hd).len
  have HD1:=aj Zx
  have HEq:Hid (gw first acc s=qO first (ew (s1.ts.length+1) (acc++x.data.toList) s1)):=by show _=_;unfold gw;rw[hr]
  have dT:=me bb bb (Lib.byteCells acc) x w1 Zx.bu (by rw[wY];omega) Zx.XJ
  have X9:=aj dT
  have Y8:=CH x
  clear hw hg h1 hr Zx dT n1 n3 hc
  go_wp2_with fail
  refine (aa X9).mono ?_
  rintro e w2 ⟨rfl,bH,QD⟩
  rw[Lib.strCells_eq,←EW] at bH
  have HD2:=aj ((aa HD1).write (aa HL) bH QD (by rw[zK,Y8];omega))
  clear bH QD HD1 X9 Hd
  go_wp2
  refine fV (DtJ lb b bb bt W0 first (gw first acc s)) ?_ (s1.ts.length+1) _ _ ⟨_,_,s1,rfl,rfl,⟨rfl,rfl,rfl,trivial⟩,aa HD2,by omega,aa HEq⟩
  clear HD2 HEq Y8 n2 n4 hlen
  rintro f _ wr ⟨tm,ac,sc,rfl,bR,je,hD,hf,A2⟩
  obtain ⟨u,rfl⟩:=F4 bR
  obtain ⟨e0,e5,e6,_⟩:=je
  replace e0:u 0=.pointer (some ⟨b,0,none⟩):=zC e0
  replace e5:u 5=.pointer (some ⟨bt,0,none⟩):=zC e5
  replace e6:u 6=.pointer (some ⟨bb,0,none⟩):=zC e6
  rw[e0,e5,e6]
  have HD:=aj hD
  have C7:=aj A2
  obtain ⟨f,rfl⟩:∃k,f=k+1:=⟨f-1,by omega⟩
  clear e0 e5 e6 bR hD A2
  go_wp2_with fail
  refine (fO (aa HD).rd _).mono ?_
  intro e w3 hw
  rcases hw.split with ⟨y,hr,rfl,hg⟩|⟨fl,s3,hr,rfl,h3,hg⟩
  ·show Q (Exit.panic _) _ _
   rw[←hQ]
   refine ⟨rfl,aa HR _ _ ?_⟩
   rw[aa C7]
   unfold ew
   rw[hr]
   exact ⟨rfl,(aa HD).gr.trans hg⟩
  ·rcases lH hr with ⟨rfl,rfl⟩|⟨rfl,NC,vX⟩
   ·
    have IG:=(aa HD).read (aa HL) h3 hg (aa HD).sm (zD _)
    have mD:gw first acc s=(if 255<ac.length then .error (2,first) else .ok (⟨ac.toArray⟩,s3)):=by
     rw[aa C7]
     unfold ew
     rw[hr]
     rfl
    have HEq:=aj mD
    have E9:=aj IG
    have hac:=IG.len
    clear hw hr hg h3 IG mD HD C7
    go_wp2_with fail
    refine (MX bb bb _ w3 (aa E9).bu).mono ?_
    rintro e w4 ⟨rfl,kL⟩
    obtain rfl:w3=w4:=kL.symm
    rw[wY]
    clear kL
    by_cases pB:255<ac.length
    ·have hd:decide ((255:Int)<(ac.length:Int))=true:=by simp;omega
     have SL:=(aa E9).fst
     have HE:Hid (R (oD 2 first) w3):=aa HR _ _ (by rw[aa HEq,if_pos pB];exact ⟨rfl,(aa E9).gr⟩)
     clear pB
     go_wp2
     rw[←hQ]
     exact ⟨rfl,aa HE⟩
    ·have hd:decide ((255:Int)<(ac.length:Int))=false:=by simp;omega
     have HE:Hid (∀w,Below bb w3 w→R (.returned (.string ⟨ac.toArray⟩)) w):=fun w hb=>aa HR _ _ (by
      rw[aa HEq,if_neg pB]
      exact ⟨rfl,(aa E9).rd.Rp (hb.mono (by have:=(aa HL).a;have:=(aa HL).b1;have:=(aa HL).c;omega)),yF (aa E9).gr hb (by have:=(aa HL).b1;have:=(aa HL).c;omega)⟩)
     clear pB
     go_wp2_with fail
     refine (CV bb bb ac w3 (aa E9).bu (aa E9).XJ).mono ?_
     rintro e w5 ⟨rfl,jf⟩
     have H5:=aj (aa HE w5 jf)
     clear jf
     go_wp2
     rw[←hQ]
     go_ret
     exact aa H5
   ·
    have n4:=mF NC (aa HD).rd.grown vX (by decide)
    have IG:=(aa HD).read (aa HL) h3 hg ((aa HD).sm.tail NC) (by omega)
    have hlen:=(aa HD).len
    have Hr:=aj hr
    have E9:=aj IG
    have kL:=nK bb bb (Lib.byteCells ac) 46 w3 IG.bu (by rw[wY];omega) IG.XJ
    have Gq:=aj kL
    clear hw hr hg h3 IG kL HD NC vX
    go_wp2_with fail
    refine (aa Gq).mono ?_
    rintro e w4 ⟨rfl,eR,Cj⟩
    have Xc:Lib.BuilderAt 188 5 bb bb (.pointer (some ⟨bb,0,none⟩)) (Lib.byteCells (ac++[46])) w4:=by rw[EW];exact eR
    have Zw:=(aa E9).write (aa HL) Xc Cj (by rw[zK];simp only[List.length_cons,List.length_nil];omega)
    have Ra:=aj Zw
    have QJ:=aj (j5 Zw.rd Zw.sm)
    clear eR Xc Cj Zw E9 Gq
    go_wp2_with fail
    refine (aa QJ).mono ?_
    intro e w5 hw
    rcases hw.split with ⟨y,hr,rfl,hg⟩|⟨x,s5,hr,rfl,h5,hg⟩
    ·show Q (Exit.panic _) _ _
     rw[←hQ]
     refine ⟨rfl,aa HR _ _ ?_⟩
     rw[aa C7]
     unfold ew
     rw[aa Hr]
     simp only
     rw[hr]
     exact ⟨rfl,(aa Ra).gr.trans hg⟩
    ·obtain ⟨m1,m2,m3⟩:=nk hr
     have m4:=mF m1 (aa Ra).rd.grown m3 (by decide)
     have Zv:=(aa Ra).read (aa HL) h5 hg ((aa Ra).sm.tail m1) (by omega)
     have QE:=(aa Ra).len
     rw[zK] at QE
     simp only[List.length_cons,List.length_nil] at QE
     have HD5:=aj Zv
     have mD:gw first acc s=qO first (ew f ((ac++[46])++x.data.toList) s5):=by
      rw[aa C7]
      conv=>lhs;unfold ew
      rw[aa Hr]
      simp only
      rw[hr]
     have HEq:=aj mD
     have NB:=me bb bb (Lib.byteCells (ac++[46])) x w5 Zv.bu (by rw[wY,zK];simp only[List.length_cons,List.length_nil];omega) Zv.XJ
     have X8:=aj NB
     have Y8:=CH x
     clear hw hr hg h5 Zv NB mD Ra QJ m1 m3
     go_wp2_with fail
     refine (aa X8).mono ?_
     rintro e w6 ⟨rfl,IC,QC⟩
     rw[Lib.strCells_eq,←EW] at IC
     have HD6:=aj ((aa HD5).write (aa HL) IC QC (by rw[zK,zK,Y8];simp only[List.length_cons,List.length_nil];omega))
     clear IC QC HD5 X8
     go_wp2
     exact ⟨f,rfl,_,_,s5,rfl,rfl,⟨rfl,rfl,rfl,trivial⟩,aa HD6,by omega,aa HEq⟩
end Go.Proofs.YtmlphohdcejniaaGreatDoor

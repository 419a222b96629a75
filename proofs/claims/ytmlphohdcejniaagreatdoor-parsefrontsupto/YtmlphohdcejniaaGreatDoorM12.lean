import Derived.Test.YtmlphohdcejniaaGreatDoorM11
set_option maxHeartbeats 4000000
set_option maxRecDepth 100000
namespace Go.Proofs
open Go.Shelf
def Tryz.lZ:Go.Shelf.Ren:=⟨fun|169=>149|n=>n,fun|70=>186|9=>9|0=>0|72=>188|37=>54|127=>118|3=>3|5=>5|n=>n,fun|n=>n⟩
theorem Tryz.BD:Go.Proofs.Lays.n169 Tryz.prog Tryz.lZ:={
 mixed:=by kernel_rfl
 f169:=Tryz.func149.trans (congrArg some (by kernel_rfl))
 t0:=Tryz.underlying0
 a0:=Tryz.isAgg0
 z0:=Tryz.sizeOf0
 v0:=Tryz.zeroValue0
 t3:=Tryz.underlying3
 a3:=Tryz.isAgg3
 z3:=Tryz.sizeOf3
 v3:=Tryz.zeroValue3
 t9:=Tryz.underlying9
 a9:=Tryz.isAgg9
 z9:=Tryz.sizeOf9
 v9:=Tryz.zeroValue9
 t37:=Tryz.underlying54
 a37:=Tryz.isAgg54
 z37:=Tryz.sizeOf54
 v37:=Tryz.zeroValue54
 t70:=Tryz.underlying186
 a70:=Tryz.isAgg186
 z70:=Tryz.sizeOf186
 v70:=Tryz.zeroValue186
 t72:=Tryz.underlying188
 a72:=Tryz.isAgg188
 z72:=Tryz.sizeOf188
 v72:=Tryz.zeroValue188
 t127:=Tryz.underlying118
 a127:=Tryz.isAgg118
 z127:=Tryz.sizeOf118
 v127:=Tryz.zeroValue118 }
def Tryz.rM:Go.Shelf.Ren:=⟨fun|170=>148|n=>n,fun|70=>186|3=>3|0=>0|72=>188|37=>54|5=>5|n=>n,fun|n=>n⟩
theorem Tryz.BC:Go.Proofs.Lays.n170 Tryz.prog Tryz.rM:={
 mixed:=by kernel_rfl
 f170:=Tryz.func148.trans (congrArg some (by kernel_rfl))
 t0:=Tryz.underlying0
 a0:=Tryz.isAgg0
 z0:=Tryz.sizeOf0
 v0:=Tryz.zeroValue0
 t3:=Tryz.underlying3
 a3:=Tryz.isAgg3
 z3:=Tryz.sizeOf3
 v3:=Tryz.zeroValue3
 t37:=Tryz.underlying54
 a37:=Tryz.isAgg54
 z37:=Tryz.sizeOf54
 v37:=Tryz.zeroValue54
 t70:=Tryz.underlying186
 a70:=Tryz.isAgg186
 z70:=Tryz.sizeOf186
 v70:=Tryz.zeroValue186
 t72:=Tryz.underlying188
 a72:=Tryz.isAgg188
 z72:=Tryz.sizeOf188
 v72:=Tryz.zeroValue188 }
end Go.Proofs
namespace Go.Proofs.YtmlphohdcejniaaGreatDoor
open Go.RowKit
attribute [local go_sem ↓] Go.wp_at_zero Go.wp_at_succ
theorem Ir {tm:Array Value} (h:tm.size=31):∃u:Nat→Value,tm=#[u 0,u 1,u 2,u 3,u 4,u 5,u 6,u 7,u 8,u 9,u 10,u 11,u 12,u 13,u 14,u 15,u 16,u 17,u 18,u 19,u 20,u 21,u 22,u 23,u 24,u 25,u 26,u 27,u 28,u 29,u 30]:=by
 refine ⟨fun i=>tm.getD i undef,?_⟩
 have e:tm=((List.range 31).map fun i=>tm.getD i undef).toArray:=by
  apply Array.ext
  ·simp[h]
  ·intro i h1 h2
   simp[Array.getD,h1]
 exact e.trans rfl
theorem Ev {bb b:Nat}{bs:List Value}{w w':World} (h:Lib.IsBuilder 188 5 bb bb bs w) (hg:w.grownBy w' (some b)) (hb:b<bb):Lib.IsBuilder 188 5 bb bb bs w':=by
 have go:∀p,Lib.BuilderAt 188 5 bb bb p bs w→Lib.BuilderAt 188 5 bb bb p bs w':=fun p h=>by
  have hl:=h.lt
  obtain ⟨h1,v,h2,h3,h4⟩:=h
  refine ⟨h1,v,(hg.block bb hl (by simp;omega)).trans h2,h3.kept hg ?_,h4⟩
  cases e:v.ownBlock with
  |none=>exact .inl rfl
  |some k =>
   refine .inr fun q=>?_
   have:=(h3.lt k e).1
   simp at q
   omega
 exact h.imp (go _) (go _)
theorem Av {W w w':World}{b lo:Nat} (h:W.grownBy w (some b)) (hb:Below lo w w') (hl:W.heap.size≤lo):W.grownBy w' (some b) :=
 ⟨hb.os.trans h.os,hb.tape.trans h.tape,hb.output.trans h.output,Nat.le_trans h.size hb.size,fun k hk eo=>(hb.block k (by omega)).trans (h.block k hk eo)⟩
theorem gG {P:Program}{c:Code}{Q:Exit→Act→World→Prop} (J:Nat→Act→World→Prop) (round:∀n a w,J n a w→c.wp P (Exit.then (fun a' w'=>∃m,n=m+1∧J m a' w') Q) a w) (n:Nat) (a:Act) (w:World) (h:J n a w):(Code.loop c).wp P Q a w:=by
 refine wp_loop_rounds (n+1) ?_
 induction n generalizing a w with
 |zero =>
  refine Code.wp_mono (fun e a' w' q=>?_) (round 0 a w h)
  cases e<;>first|exact q|(obtain ⟨m,hm,_⟩:=q;omega)
 |succ n ih =>
  refine Code.wp_mono (fun e a' w' q=>?_) (round (n+1) a w h)
  cases e<;>first|exact q|(obtain ⟨m,hm,hj⟩:=q;obtain rfl:n=m:=(by omega);exact ih a' w' hj)
noncomputable def dP:Nat→List UInt8→aD→Except (Int×Int) (List UInt8×aD)
 |0,_,_=>.error (0,0)
 |f+1,acc,s=>match cx 4 ⟨#[46]⟩ s with
  |.error e=>.error e
  |.ok (false,s1)=>.ok (acc,s1)
  |.ok (true,s1)=>match cy s1 with
   |.error e=>.error e
   |.ok (x,s2)=>dP f ((acc++[46])++x.data.toList) s2
noncomputable def sr (first:Int):Except (Int×Int) (List UInt8×aD)→Except (Int×Int) (ByteArray×aD)
 |.error e=>.error e
 |.ok (acc,s)=>if 255<acc.length then .error (2,first) else .ok (⟨acc.toArray⟩,s)
theorem oe {s s1:aD}{u:Unit} (h:bE s=.ok (u,s1)):s1.ts=s.ts.tail:=by
 unfold bE at h
 split at h
 ·cases h
 ·simp only[Except.ok.injEq,Prod.mk.injEq] at h
  rw[←h.2]
theorem mB {k:Int}{x:ByteArray}{s s1:aD}{f:Bool} (h:cx k x s=.ok (f,s1)):(f=false∧s1=s)∨(f=true∧s1.ts=s.ts.tail∧s.here.kind=k):=by
 unfold cx at h
 split at h
 ·next hp =>
  cases hn:bE s with
  |error e=>rw[hn] at h;cases h
  |ok y =>
   rw[hn] at h
   simp only[Except.ok.injEq,Prod.mk.injEq] at h
   obtain ⟨rfl,rfl⟩:=h
   refine .inr ⟨rfl,oe (u:=y.1) hn,?_⟩
   unfold cZ at hp
   rw[Bool.and_eq_true] at hp
   exact eq_of_beq hp.1
 ·simp only[Except.ok.injEq,Prod.mk.injEq] at h
  exact .inl ⟨h.1.symm,h.2.symm⟩
theorem oh {s s1:aD}{x:ByteArray} (h:cy s=.ok (x,s1)):s1.ts=s.ts.tail∧x.size≤255∧s.here.kind=1:=by
 unfold cy at h
 split at h
 ·next hk =>
  split at h
  ·next hf =>
   cases hn:bE s with
   |error e=>rw[hn] at h;cases h
   |ok y =>
    rw[hn] at h
    simp only[Except.ok.injEq,Prod.mk.injEq] at h
    obtain ⟨rfl,rfl⟩:=h
    refine ⟨oe (u:=y.1) hn,?_,hk⟩
    unfold ck at hf
    split at hf
    ·simp at hf
    ·omega
  ·cases h
 ·cases h
theorem mJ {s s1:aD}{u:Unit} (h:bE s=.ok (u,s1)):s1.op=s.op∧s1.en=s.en:=by
 unfold bE at h
 split at h
 ·cases h
 ·simp only[Except.ok.injEq,Prod.mk.injEq] at h
  obtain ⟨_,rfl⟩:=h
  exact ⟨rfl,rfl⟩
theorem GO {k:Int}{x:ByteArray}{s s1:aD}{f:Bool} (h:cx k x s=.ok (f,s1)):s1.op=s.op∧s1.en=s.en:=by
 unfold cx at h
 split at h
 ·split at h
  ·rename_i hn
   simp only[Except.ok.injEq,Prod.mk.injEq] at h
   obtain ⟨_,rfl⟩:=h
   exact mJ hn
  ·cases h
 ·simp only[Except.ok.injEq,Prod.mk.injEq] at h
  obtain ⟨_,rfl⟩:=h
  exact ⟨rfl,rfl⟩
theorem Bv {s s1:aD}{x:ByteArray} (h:cy s=.ok (x,s1)):s1.op=s.op∧s1.en=s.en:=by
 unfold cy at h
 split at h
 ·split at h
  ·split at h
   ·rename_i hn
    simp only[Except.ok.injEq,Prod.mk.injEq] at h
    obtain ⟨_,rfl⟩:=h
    exact mJ hn
   ·cases h
  ·cases h
 ·cases h
theorem Sm.tail {s s1:aD} (h:Sm s) (e:s1.ts=s.ts.tail):Sm s1:=fun t ht=>h t (by rw[e] at ht;exact List.mem_of_mem_tail ht)
structure Dt (lb b bb bt:Nat) (W0:World) (first:Int) (acc:List UInt8) (s:aD) (w:World):Prop where
 rd:Rd lb w b s
 sm:Sm s
 bu:Lib.IsBuilder 188 5 bb bb (Lib.byteCells acc) w
 fst:w.cell? ⟨bt,1,none⟩=some (.int .i64 first)
 gr:W0.grownBy w (some b)
 len:acc.length+300*s.ts.length≤5000000
structure Low (lb b bb bt:Nat) (W0:World):Prop where
 a:lb≤W0.heap.size
 b1:W0.heap.size≤bt
 c:bt<bb
 d:b<lb
theorem Dt.read {lb b bb bt:Nat}{W0 w w':World}{first:Int}{acc:List UInt8}{s s':aD} (h:Dt lb b bb bt W0 first acc s w) (hl:Low lb b bb bt W0) (hr:Rd lb w' b s') (hg:w.grownBy w' (some b)) (hs:Sm s') (hlen:s'.ts.length≤s.ts.length):Dt lb b bb bt W0 first acc s' w' :=
 ⟨hr,hs,Ev h.bu hg (by have:=hl.a;have:=hl.b1;have:=hl.c;have:=hl.d;omega),(World.cell?_of_block (a:=⟨bt,1,none⟩) (hg.block bt (World.block_lt_of_cell? w _ h.fst) (by have:=hl.a;have:=hl.b1;have:=hl.d;simp;omega))).trans h.fst,h.gr.trans hg,by have:=h.len;omega⟩
theorem Dt.write {lb b bb bt:Nat}{W0 w w':World}{first:Int}{acc VO:List UInt8}{s:aD} (h:Dt lb b bb bt W0 first acc s w) (hl:Low lb b bb bt W0) (hb:Lib.BuilderAt 188 5 bb bb (.pointer (some ⟨bb,0,none⟩)) (Lib.byteCells VO) w') (hw:Below bb w w') (hlen:VO.length+300*s.ts.length≤5000000):Dt lb b bb bt W0 first VO s w' :=
 ⟨h.rd.Tv (hw.mono (by have:=hl.a;have:=hl.b1;have:=hl.c;omega)),h.sm,.inr hb,(hw.cell (p:=⟨bt,1,none⟩) hl.c).trans h.fst,Av h.gr hw (by have:=hl.b1;have:=hl.c;omega),hlen⟩
theorem Dt.ZI {lb b bb bt:Nat}{W0 w:World}{first:Int}{acc:List UInt8}{s:aD} (h:Dt lb b bb bt W0 first acc s w):bb≤w.heap.size:=by
 rcases h.bu with q|q<;>exact Nat.le_of_lt q.lt
end Go.Proofs.YtmlphohdcejniaaGreatDoor
namespace Go.Proofs.YtmlphohdcejniaaGreatDoor
open Go.RowKit Go.Shelf
attribute [local go_sem ↓] Go.wp_at_zero Go.wp_at_succ
theorem Vm:Builder.Extra Tryz.prog Tryz.lZ:={
 sizeBuilder:=by kernel_rfl
 liesBuilder:=by kernel_rfl
 t5:=Tryz.underlying5
 a5:=Tryz.isAgg5
 z5:=Tryz.sizeOf5
 v5:=Tryz.zeroValue5
 infoByte:=by kernel_rfl
 cellsByte:=by kernel_rfl
 sizeByte:=by kernel_rfl
 neB5:=by decide }
theorem OO (B b:Nat) (bs:List Value) (w:World) (h:Lib.IsBuilder 188 5 B b bs w):Calls Tryz.prog 148 #[.pointer (some ⟨b,0,none⟩)] w fun e w'=>e=.returned (.int .i64 bs.length)∧w'=w:=Any.Builder_Len Tryz.BC B b bs w h
theorem Ew (B b:Nat) (l:List UInt8) (w:World) (h:Lib.IsBuilder 188 5 B b (Lib.byteCells l) w) (hBw:B≤w.heap.size):Calls Tryz.prog 149 #[.pointer (some ⟨b,0,none⟩)] w fun e w'=>e=.returned (.string ⟨l.toArray⟩)∧Below B w w':=Any.Builder_String_any Tryz.BD Vm B b l w h hBw
noncomputable def B6:Code:=match Tryz.f119.body with
 |some (.seq _ (.seq _ (.seq _ (.seq _ x))))=>x
 |_=>.skip
noncomputable def Oj (t:Code):Code:=match Tryz.f119.body with
 |some (.seq a (.seq b (.seq c (.seq d _))))=>.seq a (.seq b (.seq c (.seq d t)))
 |_=>.skip
theorem Oi:Tryz.f119.body=some (Oj B6):=rfl
def DtJ (lb b bb bt:Nat) (W0:World) (first:Int) (R0:Except (Int×Int) (ByteArray×aD)) (f:Nat) (a:Act) (w:World):Prop:=∃(tm:Array Value) (acc:List UInt8) (s:aD),a=⟨tm,[]⟩∧tm.size=31∧IH tm [(0,.pointer (some ⟨b,0,none⟩)),(5,.pointer (some ⟨bt,0,none⟩)),(6,.pointer (some ⟨bb,0,none⟩))]∧Dt lb b bb bt W0 first acc s w∧s.ts.length<f∧R0=sr first (dP f acc s)
noncomputable def fk (first:Int) (acc:List UInt8) (s:aD):Except (Int×Int) (ByteArray×aD):=match cy s with
 |.error e=>.error e
 |.ok (x,s1)=>sr first (dP (s1.ts.length+1) (acc++x.data.toList) s1)
theorem Gv (a b:List UInt8):Lib.byteCells (a++b)=Lib.byteCells a++Lib.byteCells b:=List.map_append
theorem yx (a:List UInt8):(Lib.byteCells a).length=a.length:=List.length_map _
theorem Ei (x:ByteArray):x.data.toList.length=x.size:=by rw[Array.length_toList];rfl
theorem nt {s s1:aD} (e:s1.ts=s.ts.tail) (hk:s.en.kind=5) {k:Int} (hh:s.here.kind=k) (h5:k≠5):s1.ts.length+1=s.ts.length:=by
 have:=bS hk (by rw[hh];exact h5)
 rw[e,List.length_tail]
 omega
theorem pL {lb b bb bt:Nat}{W0 W:World}{first:Int}{acc:List UInt8}{s:aD}{R:Ending→World→Prop} (hl:Low lb b bb bt W0) (h:Dt lb b bb bt W0 first acc s W)
  {tm:Array Value} (bU:tm.size=31) (jD:IH tm [(0,.pointer (some ⟨b,0,none⟩)),(5,.pointer (some ⟨bt,0,none⟩)),(6,.pointer (some ⟨bb,0,none⟩))]) (hR:∀e w,PR lb b W0 Value.string (fk first acc s) e w→R e w):B6.wp Tryz.prog (bodyPost Tryz.prog Tryz.f119 R) ⟨tm,[]⟩ W:=by
 have HR:=aj hR
 have hc:=aj (kG h.rd h.sm)
 obtain ⟨u,rfl⟩:=Ir bU
 obtain ⟨e0,e5,e6,_⟩:=jD
 replace e0:u 0=.pointer (some ⟨b,0,none⟩):=zC e0
 replace e5:u 5=.pointer (some ⟨bt,0,none⟩):=zC e5
 replace e6:u 6=.pointer (some ⟨bb,0,none⟩):=zC e6
 rw[e0,e5,e6]
 have Hd:=aj h
 have HL:=aj hl
 clear e0 e5 e6 bU hR h hl
 obtain ⟨Q,hQ⟩:∃Q,bodyPost Tryz.prog Tryz.f119 R=Q:=⟨_,rfl⟩
 rw[hQ]
 unfold B6
 dsimp only[Tryz.f119]
 go_wp2_with fail
 refine (aa hc).mono ?_
 intro e w1 hw
 rcases hw.split with ⟨x,hr,rfl,hg⟩|⟨x,s1,hr,rfl,h1,hg⟩
 ·rw[←hQ]
  refine ⟨rfl,aa HR _ _ ?_⟩
  unfold fk
  rw[hr]
  exact ⟨rfl,(aa Hd).gr.trans hg⟩
 ·obtain ⟨n1,n2,n3⟩:=oh hr
  have n4:=nt n1 (aa Hd).rd.grown n3 (by decide)
  have hD1:=(aa Hd).read (aa HL) h1 hg ((aa Hd).sm.tail n1) (by omega)
  have hlen:=(aa Hd).len
  have HD1:=aj hD1
  have HEq:Hid (fk first acc s=sr first (dP (s1.ts.length+1) (acc++x.data.toList) s1)):=by show _=_;unfold fk;rw[hr]
  have ez:=mZ bb bb (Lib.byteCells acc) x w1 hD1.bu (by rw[yx];omega) hD1.ZI
  have Z3:=aj ez
  have hxd:=Ei x
  clear hw hg h1 hr hD1 ez n1 n3 hc
  go_wp2_with fail
  refine (aa Z3).mono ?_
  rintro e w2 ⟨rfl,bJ,SQ⟩
  rw[Lib.strCells_eq,←Gv] at bJ
  have HD2:=aj ((aa HD1).write (aa HL) bJ SQ (by rw[zK,hxd];omega))
  clear bJ SQ HD1 Z3 Hd
  go_wp2
  refine gG (DtJ lb b bb bt W0 first (fk first acc s)) ?_ (s1.ts.length+1) _ _ ⟨_,_,s1,rfl,rfl,⟨rfl,rfl,rfl,trivial⟩,aa HD2,by omega,aa HEq⟩
  clear HD2 HEq hxd n2 n4 hlen
  rintro f _ wr ⟨tm,ac,sc,rfl,bU,jD,hD,hf,CA⟩
  obtain ⟨u,rfl⟩:=Ir bU
  obtain ⟨e0,e5,e6,_⟩:=jD
  replace e0:u 0=.pointer (some ⟨b,0,none⟩):=zC e0
  replace e5:u 5=.pointer (some ⟨bt,0,none⟩):=zC e5
  replace e6:u 6=.pointer (some ⟨bb,0,none⟩):=zC e6
  rw[e0,e5,e6]
  have HD:=aj hD
  have EF:=aj CA
  obtain ⟨f,rfl⟩:∃k,f=k+1:=⟨f-1,by omega⟩
  clear e0 e5 e6 bU hD CA
  go_wp2_with fail
  refine (gj (aa HD).rd _).mono ?_
  intro e w3 hw
  rcases hw.split with ⟨y,hr,rfl,hg⟩|⟨fl,s3,hr,rfl,h3,hg⟩
  ·show Q (Exit.panic _) _ _
   rw[←hQ]
   refine ⟨rfl,aa HR _ _ ?_⟩
   rw[aa EF]
   unfold dP
   rw[hr]
   exact ⟨rfl,(aa HD).gr.trans hg⟩
  ·rcases mB hr with ⟨rfl,rfl⟩|⟨rfl,Pp,xL⟩
   ·
    have J6:=(aa HD).read (aa HL) h3 hg (aa HD).sm (zD _)
    have nr:fk first acc s=(if 255<ac.length then .error (2,first) else .ok (⟨ac.toArray⟩,s3)):=by
     rw[aa EF]
     unfold dP
     rw[hr]
     rfl
    have HEq:=aj nr
    have GH:=aj J6
    have hac:=J6.len
    clear hw hr hg h3 J6 nr HD EF
    go_wp2_with fail
    refine (OO bb bb _ w3 (aa GH).bu).mono ?_
    rintro e w4 ⟨rfl,lG⟩
    obtain rfl:w3=w4:=lG.symm
    rw[yx]
    clear lG
    by_cases qy:255<ac.length
    ·have hd:decide ((255:Int)<(ac.length:Int))=true:=by simp;omega
     have UK:=(aa GH).fst
     have HE:Hid (R (pI 2 first) w3):=aa HR _ _ (by rw[aa HEq,if_pos qy];exact ⟨rfl,(aa GH).gr⟩)
     clear qy
     go_wp2
     rw[←hQ]
     exact ⟨rfl,aa HE⟩
    ·have hd:decide ((255:Int)<(ac.length:Int))=false:=by simp;omega
     have HE:Hid (∀w,Below bb w3 w→R (.returned (.string ⟨ac.toArray⟩)) w):=fun w hb=>aa HR _ _ (by
      rw[aa HEq,if_neg qy]
      exact ⟨rfl,(aa GH).rd.Tv (hb.mono (by have:=(aa HL).a;have:=(aa HL).b1;have:=(aa HL).c;omega)),Av (aa GH).gr hb (by have:=(aa HL).b1;have:=(aa HL).c;omega)⟩)
     clear qy
     go_wp2_with fail
     refine (Ew bb bb ac w3 (aa GH).bu (aa GH).ZI).mono ?_
     rintro e w5 ⟨rfl,kq⟩
     have H5:=aj (aa HE w5 kq)
     clear kq
     go_wp2
     rw[←hQ]
     go_ret
     exact aa H5
   ·
    have n4:=nt Pp (aa HD).rd.grown xL (by decide)
    have J6:=(aa HD).read (aa HL) h3 hg ((aa HD).sm.tail Pp) (by omega)
    have hlen:=(aa HD).len
    have Hr:=aj hr
    have GH:=aj J6
    have lG:=oP bb bb (Lib.byteCells ac) 46 w3 J6.bu (by rw[yx];omega) J6.ZI
    have IQ:=aj lG
    clear hw hr hg h3 J6 lG HD Pp xL
    go_wp2_with fail
    refine (aa IQ).mono ?_
    rintro e w4 ⟨rfl,eV,DR⟩
    have Za:Lib.BuilderAt 188 5 bb bb (.pointer (some ⟨bb,0,none⟩)) (Lib.byteCells (ac++[46])) w4:=by rw[Gv];exact eV
    have hD4:=(aa GH).write (aa HL) Za DR (by rw[zK];simp only[List.length_cons,List.length_nil];omega)
    have Tm:=aj hD4
    have SY:=aj (kG hD4.rd hD4.sm)
    clear eV Za DR hD4 GH IQ
    go_wp2_with fail
    refine (aa SY).mono ?_
    intro e w5 hw
    rcases hw.split with ⟨y,hr,rfl,hg⟩|⟨x,s5,hr,rfl,h5,hg⟩
    ·show Q (Exit.panic _) _ _
     rw[←hQ]
     refine ⟨rfl,aa HR _ _ ?_⟩
     rw[aa EF]
     unfold dP
     rw[aa Hr]
     simp only
     rw[hr]
     exact ⟨rfl,(aa Tm).gr.trans hg⟩
    ·obtain ⟨m1,m2,m3⟩:=oh hr
     have m4:=nt m1 (aa Tm).rd.grown m3 (by decide)
     have hD5:=(aa Tm).read (aa HL) h5 hg ((aa Tm).sm.tail m1) (by omega)
     have SR:=(aa Tm).len
     rw[zK] at SR
     simp only[List.length_cons,List.length_nil] at SR
     have HD5:=aj hD5
     have nr:fk first acc s=sr first (dP f ((ac++[46])++x.data.toList) s5):=by
      rw[aa EF]
      conv=>lhs;unfold dP
      rw[aa Hr]
      simp only
      rw[hr]
     have HEq:=aj nr
     have JY:=mZ bb bb (Lib.byteCells (ac++[46])) x w5 hD5.bu (by rw[yx,zK];simp only[List.length_cons,List.length_nil];omega) hD5.ZI
     have Z2:=aj JY
     have hxd:=Ei x
     clear hw hr hg h5 hD5 JY nr Tm SY m1 m3
     go_wp2_with fail
     refine (aa Z2).mono ?_
     rintro e w6 ⟨rfl,za,SP⟩
     rw[Lib.strCells_eq,←Gv] at za
     have HD6:=aj ((aa HD5).write (aa HL) za SP (by rw[zK,zK,hxd];simp only[List.length_cons,List.length_nil];omega))
     clear za SP HD5 Z2
     go_wp2
     exact ⟨f,rfl,_,_,s5,rfl,rfl,⟨rfl,rfl,rfl,trivial⟩,aa HD6,by omega,aa HEq⟩
noncomputable def cA (da:Bool) (s:aD):Except (Int×Int) (ByteArray×aD):=match (if da=true then cx 4 ⟨#[46]⟩ s else .ok (false,s)) with
 |.error e=>.error e
 |.ok (d,s1)=>fk s.here.spot (if d=true then [46] else []) s1
theorem Eu (w:World):Lib.IsBuilder 188 5 w.heap.size w.heap.size (Lib.byteCells []) (w.alloc (.cells #[.pointer none,.slice none 0 0] 188)) :=
 .inl ⟨zD _,.slice none 0 0,aC _ _,World.ownsRow_nil _ _ _ _,by simp[Value.ownBlock]⟩
theorem mT {lb b:Nat}{W:World}{s:aD} (da:Bool) (h:Rd lb W b s) (hs:Sm s) (hn:s.ts.length≤16384):Calls Tryz.prog 119 #[.pointer (some ⟨b,0,none⟩),.bool da] W (PR lb b W Value.string (cA da s)):=by
 have hc:=aj (fu h)
 have eQ:=h.low
 have Hd:=aj h
 have Hs:=aj hs
 obtain ⟨t,ht⟩:∃t,s.here=t:=⟨_,rfl⟩
 rw[ht] at hc
 have HF:Hid (cA da s=(match (if da=true then cx 4 ⟨#[46]⟩ s else .ok (false,s)) with|.error e=>.error e|.ok (d,s1)=>fk t.spot (if d=true then [46] else []) s1)):=by show _=_;unfold cA;rw[ht]
 obtain ⟨kd,sp,tx⟩:=t
 unfold Tk.val at hc
 simp only at hc HF
 clear ht h hs
 refine calls_of_wp Tryz.func119 Oi ?_
 obtain ⟨tl,oX⟩:∃t,B6=t:=⟨_,rfl⟩
 rw[oX]
 obtain ⟨Q,hQ⟩:∃Q,bodyPost Tryz.prog Tryz.f119 (PR lb b W Value.string (cA da s))=Q:=⟨_,rfl⟩
 rw[hQ]
 unfold Oj
 dsimp only[Tryz.f119]
 simp only[List.size_toArray,List.length_cons,List.length_nil,Nat.reduceAdd,Nat.reduceSub,Array.replicate_succ,Array.replicate_zero,List.push_toArray,List.append_toArray,List.nil_append,List.cons_append]
 go_wp2_with fail
 refine (aa hc).mono ?_
 rintro e w1 ⟨rfl,bF⟩
 have QK:=bF.size
 have bJ:=(bF.alloc QK (.cells #[.int .i64 kd,.int .i64 sp,.string tx] 44)).alloc (by rw[zJ];omega) (.cells #[.pointer none,.slice none 0 0] 188)
 have hL:Low lb b (w1.heap.size+1) w1.heap.size W:=⟨eQ.2,QK,by omega,eQ.1⟩
 have hbu:=Eu (w1.alloc (.cells #[.int .i64 kd,.int .i64 sp,.string tx] 44))
 rw[zJ] at hbu
 have UK:((w1.alloc (.cells #[.int .i64 kd,.int .i64 sp,.string tx] 44)).alloc (.cells #[.pointer none,.slice none 0 0] 188)).cell? ⟨w1.heap.size,1,none⟩=some (.int .i64 sp):=by
  rw[cell_of_row _ _ _ _ _ _ ((Below.heap_alloc _ _ _ (by rw[zJ];omega)).trans (aC w1 _))]
  rfl
 have hD:Dt lb b (w1.heap.size+1) w1.heap.size W sp [] s ((w1.alloc (.cells #[.int .i64 kd,.int .i64 sp,.string tx] 44)).alloc (.cells #[.pointer none,.slice none 0 0] 188)):=⟨(aa Hd).up bJ,aa Hs,hbu,UK,aA b bJ,by simp only[List.length_nil];omega⟩
 have HD:=aj hD
 have HL:=aj hL
 clear bF bJ hL hbu UK hD hc QK eQ
 cases da with
 |false =>
  simp only[Bool.false_eq_true,if_false] at HF
  go_wp2
  rw[←oX,←hQ]
  refine pL (aa HL) (aa HD) rfl ⟨rfl,rfl,rfl,trivial⟩ ?_
  intro e w hw
  rw[aa HF]
  exact hw
 |true =>
  simp only[if_true] at HF
  go_wp2_with fail
  refine (gj (aa HD).rd _).mono ?_
  intro e w3 hw
  rcases hw.split with ⟨y,hr,rfl,hg⟩|⟨fl,s3,hr,rfl,h3,hg⟩
  ·show Q (Exit.panic _) _ _
   rw[←hQ]
   refine ⟨rfl,?_⟩
   rw[aa HF,hr]
   exact ⟨rfl,(aa HD).gr.trans hg⟩
  ·have yE:Hid (cA true s=fk sp (if fl=true then [46] else []) s3):=by show _=_;rw[aa HF,hr]
   rcases mB hr with ⟨rfl,rfl⟩|⟨rfl,Pp,xL⟩
   ·have GH:=aj ((aa HD).read (aa HL) h3 hg (aa HD).sm (zD _))
    clear hw hr hg h3 HD HF
    go_wp2
    rw[←oX,←hQ]
    refine pL (aa HL) (aa GH) rfl ⟨rfl,rfl,rfl,trivial⟩ ?_
    intro e w hw
    rw[aa yE]
    exact hw
   ·have n4:=nt Pp (aa HD).rd.grown xL (by decide)
    have J6:=(aa HD).read (aa HL) h3 hg ((aa HD).sm.tail Pp) (by omega)
    have GH:=aj J6
    have IQ:=aj (oP (w1.heap.size+1) (w1.heap.size+1) (Lib.byteCells []) 46 w3 J6.bu (by rw[yx];simp) J6.ZI)
    clear hw hr hg h3 J6 HD HF Pp xL
    go_wp2_with fail
    refine (aa IQ).mono ?_
    rintro e w4 ⟨rfl,eV,DR⟩
    have Tm:Hid (Dt lb b (w1.heap.size+1) w1.heap.size W sp [46] s3 w4):=(aa GH).write (aa HL) eV DR (by simp only[List.length_cons,List.length_nil];omega)
    clear eV DR GH IQ
    go_wp2
    rw[←oX,←hQ]
    refine pL (aa HL) (aa Tm) rfl ⟨rfl,rfl,rfl,trivial⟩ ?_
    intro e w hw
    rw[aa yE]
    exact hw
structure Fd where
 dQ:Int
 key:ByteArray
 ty:ByteArray
 name:ByteArray
 num:Int
 oneof:Int
def Fd.arr (d:Fd):Array Value:=#[.int .i64 d.dQ,.string d.key,.string d.ty,.string d.name,.int .i64 d.num,.int .i64 d.oneof]
def Fd.val (d:Fd):Value:=.agg d.arr
theorem nY:(Tryz.prog.info? 70).map (·.size)=some 6:=by kernel_rfl
noncomputable def Dx (d:Fd) (s:aD):Except (Int×Int) (Fd×aD):=match cy s with
 |.error e=>.error e
 |.ok (x,s1)=>match cG 0 2147483647 false s1 with
  |.error e=>.error e
  |.ok (n,s2)=>.ok ({ d with name:=x,num:=n },s2)
theorem iT {w:World}{g:Nat}{a0 a1 a2 a3 a4 a5:Value}{t:TypeId} (h:w.heap[g]?=some (.cells #[a0,a1,a2,a3,a4,a5] t (0,0))):(w.cell? ⟨g,0,none⟩=some a0∧w.cell? ⟨g,1,none⟩=some a1∧w.cell? ⟨g,2,none⟩=some a2∧w.cell? ⟨g,3,none⟩=some a3∧w.cell? ⟨g,4,none⟩=some a4∧w.cell? ⟨g,5,none⟩=some a5)∧∀j,w.frozen? ⟨g,j,none⟩=false:=by
 refine ⟨⟨?_,?_,?_,?_,?_,?_⟩,fun j=>by simp[World.frozen?,h]⟩<;>rw[cell_of_row _ _ _ _ _ _ h]<;>rfl
def oD (w:World) (g:Nat) (a0 a1 a2 a3 a4 a5:Value):World:=(((((w.setCell ⟨g,0,none⟩ a0).setCell ⟨g,1,none⟩ a1).setCell ⟨g,2,none⟩ a2).setCell ⟨g,3,none⟩ a3).setCell ⟨g,4,none⟩ a4).setCell ⟨g,5,none⟩ a5
theorem kD {w:World}{g:Nat}{b0 b1 b2 b3 b4 b5:Value}{t:TypeId} (h:w.heap[g]?=some (.cells #[b0,b1,b2,b3,b4,b5] t (0,0))) (a0 a1 a2 a3 a4 a5:Value):(oD w g a0 a1 a2 a3 a4 a5).heap[g]?=some (.cells #[a0,a1,a2,a3,a4,a5] t (0,0))∧w.grownBy (oD w g a0 a1 a2 a3 a4 a5) (some g):=by
 obtain ⟨h0,g0⟩:=aJ (j:=0) h a0
 obtain ⟨h1,g1⟩:=aJ (j:=1) h0 a1
 obtain ⟨h2,g2⟩:=aJ (j:=2) h1 a2
 obtain ⟨h3,g3⟩:=aJ (j:=3) h2 a3
 obtain ⟨h4,g4⟩:=aJ (j:=4) h3 a4
 obtain ⟨h5,g5⟩:=aJ (j:=5) h4 a5
 exact ⟨h5,((((g0.trans g1).trans g2).trans g3).trans g4).trans g5⟩
theorem dp {W w w':World}{b g:Nat} (h:W.grownBy w (some b)) (k:w.grownBy w' (some g)) (hl:W.heap.size≤g):W.grownBy w' (some b) :=
 ⟨k.os.trans h.os,k.tape.trans h.tape,k.output.trans h.output,Nat.le_trans h.size k.size,fun i hi eo=>(k.block i (Nat.lt_of_lt_of_le hi h.size) (by simp;omega)).trans (h.block i hi eo)⟩
theorem gP {lb b g:Nat}{s:aD}{w w':World} (h:Rd lb w b s) (k:w.grownBy w' (some g)) (hl:lb≤g):Rd lb w' b s :=
 h.Tv ((zE lb w).grown k h.low.2 (fun i e=>by simp at e;omega))
theorem vL {V W w:World}{b g:Nat} (h:Env V W b) (k:W.grownBy w (some g)) (hl:V.heap.size≤g):Env V w b :=
 ⟨h.f,h.e,h.m,h.below.grown k h.below.size (fun i e=>by simp at e;omega),h.lo⟩
theorem Mm {lb b:Nat}{V W:World}{s:aD} (d:Fd) (hv:Env V W b) (h:Rd lb W b s) (hs:Sm s):Calls Tryz.prog 178 #[.pointer (some ⟨b,0,none⟩),d.val] W (PR lb b W Fd.val (Dx d s)):=by
 obtain ⟨c0,k0,t0,n0,m0,o0⟩:=d
 have eQ:=h.low
 have hVb:=hv.lo
 have bJ:Below W.heap.size W ((W.alloc (.cells #[.int .i64 c0,.string k0,.string t0,.string n0,.int .i64 m0,.int .i64 o0] 70)).alloc (.cells #[.int .i64 0,.string ⟨#[]⟩,.string ⟨#[]⟩,.string ⟨#[]⟩,.int .i64 0,.int .i64 0] 70)):=((zE _ _).alloc (zD _) _).alloc (by rw[zJ];omega) _
 have oq:((W.alloc (.cells #[.int .i64 c0,.string k0,.string t0,.string n0,.int .i64 m0,.int .i64 o0] 70)).alloc (.cells #[.int .i64 0,.string ⟨#[]⟩,.string ⟨#[]⟩,.string ⟨#[]⟩,.int .i64 0,.int .i64 0] 70)).heap[W.heap.size]?=some (.cells #[.int .i64 c0,.string k0,.string t0,.string n0,.int .i64 m0,.int .i64 o0] 70 (0,0)):=(Below.heap_alloc _ _ _ (by rw[zJ];omega)).trans (aC _ _)
 have fO:((W.alloc (.cells #[.int .i64 c0,.string k0,.string t0,.string n0,.int .i64 m0,.int .i64 o0] 70)).alloc (.cells #[.int .i64 0,.string ⟨#[]⟩,.string ⟨#[]⟩,.string ⟨#[]⟩,.int .i64 0,.int .i64 0] 70)).heap[W.heap.size+1]?=some (.cells #[.int .i64 0,.string ⟨#[]⟩,.string ⟨#[]⟩,.string ⟨#[]⟩,.int .i64 0,.int .i64 0] 70 (0,0)):=by
  have:=aC (W.alloc (.cells #[.int .i64 c0,.string k0,.string t0,.string n0,.int .i64 m0,.int .i64 o0] 70)) (.cells #[.int .i64 0,.string ⟨#[]⟩,.string ⟨#[]⟩,.string ⟨#[]⟩,.int .i64 0,.int .i64 0] 70)
  rw[zJ] at this
  exact this
 have hc:=aj (kG (h.up bJ) hs)
 have sZ:=aj (aA b bJ)
 have Hv:=aj (hv.step (aA b bJ))
 have EE:=aj oq
 have yD:=aj fO
 clear oq fO bJ h hv hs
 unfold Fd.val Fd.arr
 simp only
 go_enter Tryz.func178,Tryz.ntmps178
 go_wp2_with fail
 refine (aa hc).mono ?_
 intro e w1 hw
 rcases hw.split with ⟨y,hr,rfl,hg⟩|⟨x,s1,hr,rfl,h1,hg⟩
 ·refine ⟨rfl,?_⟩
  unfold Dx
  rw[hr]
  exact ⟨rfl,(aa sZ).trans hg⟩
 ·have l1:W.heap.size<w1.heap.size:=Nat.lt_of_lt_of_le (zA (aa EE)).1 hg.size
  have p1:=(hg.block W.heap.size (zA (aa EE)).1 (by simp;omega)).trans (aa EE)
  have p2:=(hg.block (W.heap.size+1) (zA (aa yD)).1 (by simp;omega)).trans (aa yD)
  obtain ⟨⟨y0,y1,y2,y3,y4,y5⟩,yf⟩:=iT p1
  have f3:=yf 3
  obtain ⟨q1,g1⟩:=aJ (j:=3) p1 (.string x)
  have q2:=(g1.block (W.heap.size+1) (zA p2).1 (by simp)).trans p2
  have xM:=gP h1 g1 (by omega)
  have Ut:=vL ((aa Hv).step hg) g1 (by omega)
  have lI:=dp ((aa sZ).trans hg) g1 (zD _)
  have Hr:=aj hr
  have HC:=aj (qQ 0 2147483647 false Ut xM)
  have Q1:=aj q1
  have Q2:=aj q2
  have AY:=aj lI
  clear hw hr hg h1 p1 p2 yf q1 q2 g1 xM Ut lI EE yD sZ hc l1
  go_wp2_with fail
  refine (aa HC).mono ?_
  intro e w2 hw
  rcases hw.split with ⟨y,hr,rfl,hg⟩|⟨n,s2,hr,rfl,h2,hg⟩
  ·refine ⟨rfl,?_⟩
   unfold Dx
   rw[aa Hr]
   simp only
   rw[hr]
   exact ⟨rfl,(aa AY).trans hg⟩
  ·have p1:=(hg.block W.heap.size (zA (aa Q1)).1 (by simp;omega)).trans (aa Q1)
   have p2:=(hg.block (W.heap.size+1) (zA (aa Q2)).1 (by simp;omega)).trans (aa Q2)
   simp only[zN,zM] at p1
   obtain ⟨⟨z0,z1,z2,z3,z4,z5⟩,zf⟩:=iT p1
   have f4:=zf 4
   obtain ⟨q1,g1⟩:=aJ (j:=4) p1 (.int .i64 n)
   have q2:=(g1.block (W.heap.size+1) (zA p2).1 (by simp)).trans p2
   simp only[zN,zM] at q1
   obtain ⟨⟨u0,u1,u2,u3,u4,u5⟩,_⟩:=iT q1
   obtain ⟨⟨v0,v1,v2,v3,v4,v5⟩,vf⟩:=iT q2
   have e0:=vf 0
   have e1:=vf 1
   have e2:=vf 2
   have e3:=vf 3
   have e4:=vf 4
   have e5:=vf 5
   obtain ⟨r1,r2⟩:=kD q2 (.int .i64 c0) (.string k0) (.string t0) (.string x) (.int .i64 n) (.int .i64 o0)
   have HE:Hid (PR lb b W Fd.val (Dx ⟨c0,k0,t0,n0,m0,o0⟩ s) (.returned (.agg #[.int .i64 c0,.string k0,.string t0,.string x,.int .i64 n,.int .i64 o0])) (oD (w2.setCell ⟨W.heap.size,4,none⟩ (.int .i64 n)) (W.heap.size+1) (.int .i64 c0) (.string k0) (.string t0) (.string x) (.int .i64 n) (.int .i64 o0))):=by
    show PR lb b W Fd.val (Dx ⟨c0,k0,t0,n0,m0,o0⟩ s) _ _
    unfold Dx
    rw[aa Hr]
    simp only
    rw[hr]
    exact ⟨rfl,gP (gP h2 g1 (by omega)) r2 (by omega),dp (dp ((aa AY).trans hg) g1 (zD _)) r2 (by omega)⟩
   have R1:=aj r1
   unfold oD at HE R1
   clear hw hr hg h2 p1 p2 zf q1 q2 g1 vf r1 r2 HC Q1 Q2 AY Hr Hv
   unfold rQ
   go_wp2
   exact bodyPost_ret (results_cell_row rfl _ _ (W.heap.size+1) 70 #[.int .i64 c0,.string k0,.string t0,.string x,.int .i64 n,.int .i64 o0] (0,0) _ rfl (aa R1) Tryz.underlying70 rfl nY) rfl (aa HE)
def lL (s s1:aD):Prop:=∃k,s1.ts=s.ts.drop k∧s1.op=s.op∧s1.en=s.en
theorem lL.refl (s:aD):lL s s:=⟨0,rfl,rfl,rfl⟩
theorem lL.trans {a b c:aD} (h:lL a b) (k:lL b c):lL a c:=by
 obtain ⟨m,h,h1,h2⟩:=h
 obtain ⟨n,k,k1,k2⟩:=k
 exact ⟨m+n,by rw[k,h,List.drop_drop],k1.trans h1,k2.trans h2⟩
theorem lL.tail {s s1:aD} (h:s1.ts=s.ts.tail) (ho:s1.op=s.op∧s1.en=s.en):lL s s1:=⟨1,by rw[h,List.drop_one],ho⟩
theorem lL.op {s s1:aD} (h:lL s s1):s1.op=s.op:=by
 obtain ⟨_,_,h,_⟩:=h
 exact h
theorem lL.len {s s1:aD} (h:lL s s1):s1.ts.length≤s.ts.length:=by
 obtain ⟨k,h,_⟩:=h
 rw[h,List.length_drop]
 omega
theorem lL.sm {s s1:aD} (h:lL s s1) (k:Sm s):Sm s1:=by
 obtain ⟨n,h,_⟩:=h
 intro t ht
 rw[h] at ht
 exact k t (List.mem_of_mem_drop ht)
theorem dV {k:Int}{x:ByteArray}{s s1:aD}{f:Bool} (h:cx k x s=.ok (f,s1)):lL s s1:=by
 rcases mB h with ⟨_,rfl⟩|⟨_,h1,_⟩
 ·exact .refl _
 ·exact .tail h1 (GO h)
theorem CY:∀(f:Nat) (acc:List UInt8) (s:aD) {r:List UInt8}{s1:aD},dP f acc s=.ok (r,s1)→lL s s1
 |0,acc,s,r,s1,h=>by unfold dP at h;cases h
 |f+1,acc,s,r,s1,h=>by
  unfold dP at h
  cases ht:cx 4 ⟨#[46]⟩ s with
  |error e=>rw[ht] at h;cases h
  |ok y =>
   obtain ⟨fl,s2⟩:=y
   rw[ht] at h
   cases fl with
   |false =>
    simp only[Except.ok.injEq,Prod.mk.injEq] at h
    rw[←h.2]
    exact dV ht
   |true =>
    simp only at h
    cases hn:cy s2 with
    |error e=>rw[hn] at h;cases h
    |ok z =>
     rw[hn] at h
     exact ((dV ht).trans (.tail (oh hn).1 (Bv hn))).trans (CY f _ _ h)
theorem zW {first:Int}{acc:List UInt8}{s s1:aD}{x:ByteArray} (h:fk first acc s=.ok (x,s1)):lL s s1:=by
 unfold fk at h
 cases hn:cy s with
 |error e=>rw[hn] at h;cases h
 |ok z =>
  rw[hn] at h
  simp only at h
  cases hl:dP (z.2.ts.length+1) (acc++z.1.data.toList) z.2 with
  |error e=>rw[hl] at h;cases h
  |ok y =>
   rw[hl] at h
   unfold sr at h
   simp only at h
   split at h
   ·cases h
   ·simp only[Except.ok.injEq,Prod.mk.injEq] at h
    rw[←h.2]
    exact (lL.tail (oh hn).1 (Bv hn)).trans (CY _ _ _ hl)
theorem fR {da:Bool}{s s1:aD}{x:ByteArray} (h:cA da s=.ok (x,s1)):lL s s1:=by
 unfold cA at h
 cases da with
 |false =>
  simp only[Bool.false_eq_true,if_false] at h
  exact zW h
 |true =>
  simp only[if_true] at h
  cases ht:cx 4 ⟨#[46]⟩ s with
  |error e=>rw[ht] at h;cases h
  |ok y =>
   rw[ht] at h
   exact (dV ht).trans (zW h)
noncomputable def fH (d:Fd) (s:aD):Except (Int×Int) (Fd×aD):=match cA true s with
 |.error e=>.error e
 |.ok (x,s1)=>Dx { d with ty:=x } s1
theorem sP {lb b:Nat}{V W:World}{s:aD} (d:Fd) (hv:Env V W b) (h:Rd lb W b s) (hs:Sm s) (hn:s.ts.length≤16384):Calls Tryz.prog 162 #[.pointer (some ⟨b,0,none⟩),d.val] W (PR lb b W Fd.val (fH d s)):=by
 obtain ⟨c0,k0,t0,n0,m0,o0⟩:=d
 have eQ:=h.low
 have hVb:=hv.lo
 have bJ:Below W.heap.size W ((W.alloc (.cells #[.int .i64 c0,.string k0,.string t0,.string n0,.int .i64 m0,.int .i64 o0] 70)).alloc (.cells #[.int .i64 0,.string ⟨#[]⟩,.string ⟨#[]⟩,.string ⟨#[]⟩,.int .i64 0,.int .i64 0] 70)):=((zE _ _).alloc (zD _) _).alloc (by rw[zJ];omega) _
 have oq:((W.alloc (.cells #[.int .i64 c0,.string k0,.string t0,.string n0,.int .i64 m0,.int .i64 o0] 70)).alloc (.cells #[.int .i64 0,.string ⟨#[]⟩,.string ⟨#[]⟩,.string ⟨#[]⟩,.int .i64 0,.int .i64 0] 70)).heap[W.heap.size]?=some (.cells #[.int .i64 c0,.string k0,.string t0,.string n0,.int .i64 m0,.int .i64 o0] 70 (0,0)):=(Below.heap_alloc _ _ _ (by rw[zJ];omega)).trans (aC _ _)
 have fO:((W.alloc (.cells #[.int .i64 c0,.string k0,.string t0,.string n0,.int .i64 m0,.int .i64 o0] 70)).alloc (.cells #[.int .i64 0,.string ⟨#[]⟩,.string ⟨#[]⟩,.string ⟨#[]⟩,.int .i64 0,.int .i64 0] 70)).heap[W.heap.size+1]?=some (.cells #[.int .i64 0,.string ⟨#[]⟩,.string ⟨#[]⟩,.string ⟨#[]⟩,.int .i64 0,.int .i64 0] 70 (0,0)):=by
  have:=aC (W.alloc (.cells #[.int .i64 c0,.string k0,.string t0,.string n0,.int .i64 m0,.int .i64 o0] 70)) (.cells #[.int .i64 0,.string ⟨#[]⟩,.string ⟨#[]⟩,.string ⟨#[]⟩,.int .i64 0,.int .i64 0] 70)
  rw[zJ] at this
  exact this
 have hc:=aj (mT true (h.up bJ) hs hn)
 have sZ:=aj (aA b bJ)
 have Hv:=aj (hv.step (aA b bJ))
 have EE:=aj oq
 have yD:=aj fO
 have HS:=aj hs
 clear oq fO bJ h hv hs
 unfold Fd.val Fd.arr
 simp only
 go_enter Tryz.func162,Tryz.ntmps162
 go_wp2_with fail
 refine (aa hc).mono ?_
 intro e w1 hw
 rcases hw.split with ⟨y,hr,rfl,hg⟩|⟨x,s1,hr,rfl,h1,hg⟩
 ·refine ⟨rfl,?_⟩
  unfold fH
  rw[hr]
  exact ⟨rfl,(aa sZ).trans hg⟩
 ·have p1:=(hg.block W.heap.size (zA (aa EE)).1 (by simp;omega)).trans (aa EE)
  have p2:=(hg.block (W.heap.size+1) (zA (aa yD)).1 (by simp;omega)).trans (aa yD)
  obtain ⟨⟨y0,y1,y2,y3,y4,y5⟩,yf⟩:=iT p1
  have f2:=yf 2
  obtain ⟨q1,g1⟩:=aJ (j:=2) p1 (.string x)
  have q2:=(g1.block (W.heap.size+1) (zA p2).1 (by simp)).trans p2
  simp only[zN,zM] at q1
  obtain ⟨⟨u0,u1,u2,u3,u4,u5⟩,_⟩:=iT q1
  have xM:=gP h1 g1 (by omega)
  have Ut:=vL ((aa Hv).step hg) g1 (by omega)
  have lI:=dp ((aa sZ).trans hg) g1 (zD _)
  have Hr:=aj hr
  have HC:=aj (Mm ⟨c0,k0,x,n0,m0,o0⟩ Ut xM ((fR hr).sm (aa HS)))
  have Q2:=aj q2
  have AY:=aj lI
  unfold Fd.val Fd.arr at HC
  simp only at HC
  clear hw hr hg h1 p1 p2 yf q1 q2 g1 xM Ut lI EE yD sZ hc
  go_wp2_with fail
  refine (aa HC).mono ?_
  intro e w2 hw
  rcases hw.split with ⟨y,hr,rfl,hg⟩|⟨d2,s2,hr,rfl,h2,hg⟩
  ·refine ⟨rfl,?_⟩
   unfold fH
   rw[aa Hr]
   simp only
   rw[hr]
   exact ⟨rfl,(aa AY).trans hg⟩
  ·obtain ⟨c9,k9,t9,n9,m9,o9⟩:=d2
   simp only
   have p2:=(hg.block (W.heap.size+1) (zA (aa Q2)).1 (by simp;omega)).trans (aa Q2)
   obtain ⟨⟨v0,v1,v2,v3,v4,v5⟩,vf⟩:=iT p2
   have e0:=vf 0
   have e1:=vf 1
   have e2:=vf 2
   have e3:=vf 3
   have e4:=vf 4
   have e5:=vf 5
   obtain ⟨r1,r2⟩:=kD p2 (.int .i64 c9) (.string k9) (.string t9) (.string n9) (.int .i64 m9) (.int .i64 o9)
   have HE:Hid (PR lb b W Fd.val (fH ⟨c0,k0,t0,n0,m0,o0⟩ s) (.returned (.agg #[.int .i64 c9,.string k9,.string t9,.string n9,.int .i64 m9,.int .i64 o9])) (oD w2 (W.heap.size+1) (.int .i64 c9) (.string k9) (.string t9) (.string n9) (.int .i64 m9) (.int .i64 o9))):=by
    show PR lb b W Fd.val (fH ⟨c0,k0,t0,n0,m0,o0⟩ s) _ _
    unfold fH
    rw[aa Hr]
    simp only
    rw[hr]
    exact ⟨rfl,gP h2 r2 (by omega),dp ((aa AY).trans hg) r2 (by omega)⟩
   have R1:=aj r1
   unfold oD at HE R1
   clear hw hr hg h2 p2 vf r1 r2 HC Q2 AY Hr Hv u0 u1 u2 u3 u4 u5 y0 y1 y2 y3 y4 y5 f2
   go_wp2
   exact bodyPost_ret (results_cell_row rfl _ _ (W.heap.size+1) 70 #[.int .i64 c9,.string k9,.string t9,.string n9,.int .i64 m9,.int .i64 o9] (0,0) _ rfl (aa R1) Tryz.underlying70 rfl nY) rfl (aa HE)
end Go.Proofs.YtmlphohdcejniaaGreatDoor

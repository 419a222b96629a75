import Derived.Test.YtmlphohdcejniaaGreatDoorPbL
set_option maxHeartbeats 4000000
set_option maxRecDepth 100000
namespace Go.Proofs.YtmlphohdcejniaaGreatDoor
open Go.RowKit
attribute [local go_sem ↓] Go.wp_at_zero Go.wp_at_succ
section
variable {P : Program} {ops : Array Oper} {Q : Exit → Act → World → Prop}
def zw (ops:Array Oper):Nat→Nat→Nat→Bool
 |0,a,i=>fh ops a i
 |f+1,a,i=>fh ops a i ||(List.range a).any fun j=>fh ops a j&&zw ops f j i
theorem BF (D:Nat→Prop) (gj:∀k j,D k→kI ops k j→D j):∀(f a i:Nat),(∀j,kI ops a j→D j)→zw ops f a i=true→D i
 |0,a,i,hD,h=>hD i (dV h)
 |f+1,a,i,hD,h=>by
  unfold zw at h
  rw[Bool.or_eq_true] at h
  rcases h with h|h
  ·exact hD i (dV h)
  ·obtain ⟨j,_,h2⟩:=List.any_eq_true.1 h
   rw[Bool.and_eq_true] at h2
   exact BF D gj f j i (fun k hk=>gj j k (hD j (dV h2.1)) hk) h2.2
def Tv (ops:Array Oper) (z:Nat):Bool:=(List.range z).all fun i=>zw ops 4 z i
theorem F9 {z:Nat} (h:Tv ops z=true):∀D:Nat→Prop,(∀k j,D k→kI ops k j→D j)→(∀j,kI ops z j→D j)→∀i,i<z→D i:=fun D gj hD i hi=>BF D gj 4 z i hD (List.all_eq_true.1 h i (List.mem_range.2 hi))
theorem ot {id z N:Nat} (OV:P.follows .mixedOrders=true) (s:Nat→Nat) (G:Array Bool→Array Value→World→Prop) (gR:Array Value) (w0:World)
  (hn:ops.size=z+1) (hN:gR.size=N) (hs:∀i,i<z→s i<N) (Cp:Gm ops (z+1)=true) (hz:Tv ops z=true) (h0:∀d,(∀k,d.getD k false=false)→d.size=z+1→G d gR w0.drew)
  (step:∀k d tm w,k<z→d.size=z+1→(∀k j,d.getD k false=true→kI ops k j→d.getD j false=true)→d.getD k false=false→(∀j,fh ops k j=true→j<k∧d.getD j false=true)→tm.size=N→(∀j,(∀i,i<z→s i≠j)→tm.getD j undef=gR.getD j undef)→G d tm w →
   wpOp P ops Q k (fun a' w'=>∃v,a'=⟨tm.setIfInBounds (s k) v,[]⟩∧G (d.setIfInBounds k true) (tm.setIfInBounds (s k) v) w') ⟨tm,[]⟩ w)
  (last:∀d tm w,(∀j,j<z→d.getD j false=true)→tm.size=N→(∀j,(∀i,i<z→s i≠j)→tm.getD j undef=gR.getD j undef)→G d tm w→wpOp P ops Q z (fun a' w'=>Q .normal a' w') ⟨tm,[]⟩ w) :
  (Code.region id ops true).wp P Q ⟨gR,[]⟩ w0:=by
 have hb:=Gl hn Cp
 refine wp_region_any OV (qg (md:=.any) (fun d a w=>d.size=z+1∧(∀k j,d.getD k false=true→kI ops k j→d.getD j false=true)∧((d.getD z false=false∧∃tm,a=⟨tm,[]⟩∧tm.size=N∧(∀j,(∀i,i<z→s i≠j)→tm.getD j undef=gR.getD j undef)∧G d tm w)∨(d.getD z false=true∧Q .normal a w))) ?_ ?_ _ _ _ _ ?_ ?_)
 ·rintro d a w i ⟨hd,gj,LG⟩ hr
  obtain ⟨hi,rR⟩:=pj hr
  obtain ⟨_,o,ho,kN⟩:=mem_ready.1 hr
  have iL:d.getD i false=false:=by simp[hi,rR]
  have hw:∀k,kI ops i k→d.getD k false=true:=by
   rintro k ⟨o',Ag,e,he,hb,rfl⟩
   rw[ho] at Ag
   obtain rfl:=zC Ag
   exact kN e he hb
  have Cn:∀k j,(d.setIfInBounds i true).getD k false=true→kI ops k j→(d.setIfInBounds i true).getD j false=true:=by
   intro k j hk hj
   by_cases e:j=i
   ·subst e
    exact bQ hi
   ·rw[aB (Ne.symm e)]
    by_cases e2:k=i
    ·subst e2
     exact hw j hj
    ·rw[aB (Ne.symm e2)] at hk
     exact gj k j hk hj
  have gW:(d.setIfInBounds i true).size=z+1:=by rw[Array.size_setIfInBounds];exact hd
  rcases LG with ⟨A0,tm,rfl,h1,h2,h3⟩|⟨A0,hq⟩
  rotate_left
  ·exfalso
   have OY:i<z:=by
    rcases Nat.lt_or_ge i z with q|q
    ·exact q
    ·obtain rfl:i=z:=by omega
     rw[A0] at iL;cases iL
   have:=F9 hz (fun k=>d.getD k false=true) gj (fun j hj=>gj _ _ A0 hj) i OY
   rw[this] at iL;cases iL
  by_cases OY:i=z
  ·subst OY
   have jv:=F9 hz (fun k=>d.getD k false=true) gj hw
   refine wpOp_mono ?_ (last d tm w jv h1 h2 h3)
   intro a' w' hq
   exact ⟨gW,Cn,.inr ⟨bQ hi,hq⟩⟩
  ·have Ah:i<z:=by omega
   refine wpOp_mono ?_ (step i d tm w Ah hd gj iL (fun j hj=>⟨?_,hw j (dV hj)⟩) h1 h2 h3)
   ·rintro a' w' ⟨v,rfl,hg⟩
    refine ⟨gW,Cn,.inl ⟨by rw[aB OY];exact A0,_,rfl,by rw[Array.size_setIfInBounds];exact h1,fun j hj=>by rw[aB (hj i Ah)];exact h2 j hj,hg⟩⟩
   ·obtain ⟨o',Ag,e,he,_,rfl⟩:=dV hj
    exact hb i o' Ag e he
 ·rintro d a w ⟨hd,gj,⟨A0,_⟩|⟨_,hq⟩⟩ hr
  ·exfalso
   have kN:∀m i,i<m→i<z+1→d.getD i false=true:=by
    intro m
    induction m with
    |zero=>intro i hi;omega
    |succ m ih =>
     intro i hi NG
     obtain ⟨o,ho⟩:∃o,ops[i]?=some o:=⟨_,Array.getElem?_eq_getElem (by omega)⟩
     exact Gd (by omega) hr ho fun e he _=>ih e.on (by have:=hb i o ho e he;omega) (by have:=hb i o ho e he;omega)
   rw[kN (z+1) z (by omega) (by omega)] at A0;cases A0
  ·exact hq
 ·have Cg:∀k,(Array.replicate ops.size false).getD k false=false:=fun k=>by
   simp[Array.getD_eq_getD_getElem?,Array.getElem?_replicate]
   split<;>simp
  exact ⟨by simp[hn],fun k j hk _=>(by rw[Cg k] at hk;cases hk),.inl ⟨Cg z,gR,rfl,hN,fun _ _=>rfl,h0 _ Cg (by simp[hn])⟩⟩
 ·simp
theorem gU {id z N:Nat} (c:Nat) (OV:P.follows .mixedOrders=true) (s:Nat→Nat) (val:Nat→Value) (Φ0:World→Prop) (Φ1:Value→World→Prop) (gR:Array Value) (w0:World)
  (hn:ops.size=z+1) (hN:gR.size=N) (Lx:∀i j,i<z→j<z→s i=s j→i=j) (hs:∀i,i<z→s i<N) (Cp:Gm ops (z+1)=true) (hz:Tv ops z=true) (h0:Φ0 w0.drew)
  (quiet:∀k tm w,k<z→k≠c→tm.size=N→(∀j,(∀i,i<z→s i≠j)→tm.getD j undef=gR.getD j undef)→(∀j,j≠c→fh ops k j=true→tm.getD (s j) undef=val j)→(Φ0 w∨∃x,Φ1 x w)→wpOp P ops Q k (fun a' w'=>a'=⟨tm.setIfInBounds (s k) (val k),[]⟩∧w'=w) ⟨tm,[]⟩ w)
  (call:c<z→∀tm w,tm.size=N→(∀j,(∀i,i<z→s i≠j)→tm.getD j undef=gR.getD j undef)→(∀j,j≠c→fh ops c j=true→tm.getD (s j) undef=val j)→Φ0 w→wpOp P ops Q c (fun a' w'=>∃x,a'=⟨tm.setIfInBounds (s c) x,[]⟩∧Φ1 x w') ⟨tm,[]⟩ w)
  (last:∀tm w,tm.size=N→(∀j,(∀i,i<z→s i≠j)→tm.getD j undef=gR.getD j undef)→(∀j,j<z→j≠c→tm.getD (s j) undef=val j)→((c<z∧Φ1 (tm.getD (s c) undef) w)∨(z≤c∧Φ0 w))→wpOp P ops Q z (fun a' w'=>Q .normal a' w') ⟨tm,[]⟩ w) :
  (Code.region id ops true).wp P Q ⟨gR,[]⟩ w0:=by
 refine ot OV s (fun d tm w=>(∀j,j<z→j≠c→d.getD j false=true→tm.getD (s j) undef=val j)∧(((d.getD c false=false∨z≤c)∧Φ0 w)∨(c<z∧d.getD c false=true∧Φ1 (tm.getD (s c) undef) w))) gR w0 hn hN hs Cp hz ?_ ?_ ?_
 ·intro d hd _
  exact ⟨fun j _ _ h=>(by rw[hd j] at h;cases h),.inl ⟨.inl (hd c),h0⟩⟩
 ·intro k d tm w hk hd gj rR hw bR bW hG
  obtain ⟨kO,xH⟩:=hG
  have aV:∀j,j≠c→fh ops k j=true→tm.getD (s j) undef=val j:=fun j IA hj=>kO j (by have:=(hw j hj).1;omega) IA (hw j hj).2
  by_cases SG:k=c
  ·subst SG
   rcases xH with ⟨_,h1⟩|⟨_,h1,_⟩
   ·refine wpOp_mono ?_ (call hk tm w bR bW aV h1)
    rintro a' w' ⟨x,rfl,hx⟩
    refine ⟨x,rfl,fun j hj IA pD=>?_,.inr ⟨hk,bQ (by omega),by rw[bQ (by rw[bR];exact hs k hk)];exact hx⟩⟩
    rw[aB (Ne.symm IA)] at pD
    rw[aB (fun q=>IA (Lx k j hk hj q).symm)]
    exact kO j hj IA pD
   ·rw[h1] at rR;cases rR
  ·refine wpOp_mono ?_ (quiet k tm w hk SG bR bW aV (by rcases xH with ⟨_,h1⟩|⟨_,_,h1⟩;exact .inl h1;exact .inr ⟨_,h1⟩))
   rintro a' w' ⟨rfl,rfl⟩
   refine ⟨_,rfl,fun j hj IA pD=>?_,?_⟩
   ·by_cases e:j=k
    ·subst e
     exact bQ (by rw[bR];exact hs j hj)
    ·rw[aB (Ne.symm e)] at pD
     rw[aB (fun q=>e (Lx k j hk hj q).symm)]
     exact kO j hj IA pD
   ·rw[aB SG]
    rcases xH with h1|⟨h1,h2,h3⟩
    ·exact .inl h1
    ·exact .inr ⟨h1,h2,by rw[aB (fun q=>SG (Lx k c hk h1 q))];exact h3⟩
 ·intro d tm w hd bR bW hG
  refine last tm w bR bW (fun j hj IA=>hG.1 j hj IA (hd j hj)) ?_
  rcases hG.2 with ⟨h1,h2⟩|⟨h1,_,h3⟩
  ·rcases Nat.lt_or_ge c z with q|q
   ·rcases h1 with h1|h1
    ·rw[hd c q] at h1;cases h1
    ·omega
   ·exact .inr ⟨q,h2⟩
  ·exact .inl ⟨h1,h3⟩
theorem mQ {i:Nat}{o:Oper}{a:Act}{w:World}{K:Act→World→Prop} (ho:ops[i]?=some o) (hg:o.guard=none) (fn:Fn) (fs cs:Array Operand) (ju:o.op=.makeFunc fn fs cs) (vf vc:Array Value) (hf:fs.map a.eval=vf) (hc:cs.map a.eval=vc) (hK:K (a.put o.dst (.func fn vf vc)) w):wpOp P ops Q i K a w:=by
 refine mP ho hg (v:=.func fn vf vc) (w':=w) ?_ hK
 simp only[execOp,ju,hf,hc]
 exact Fq rfl
theorem BO {i:Nat}{o:Oper}{a:Act}{w w':World}{K:Act→World→Prop}{v:Value} (ho:ops[i]?=some o) (hg:o.guard=none) (t:TypeId) (parts:Array (Nat×Operand)) (ju:o.op=.build t parts) (vs:Array (Nat×Value)) (hv:(parts.map fun p=>(p.1,a.eval p.2))=vs) (hr:(Instr.build t vs).run P w=.ok v w') (hK:K (a.put o.dst v) w'):wpOp P ops Q i K a w:=by
 refine mP ho hg (v:=v) (w':=w') ?_ hK
 simp only[execOp,ju,hv]
 exact Fq hr
end
end Go.Proofs.YtmlphohdcejniaaGreatDoor
namespace Go.Proofs.YtmlphohdcejniaaGreatDoor
open Go.RowKit
attribute [local go_sem ↓] Go.wp_at_zero Go.wp_at_succ
theorem pO (w:World) (vs:Array Value):(callFunc 156 vs).run Tryz.prog w=.ok (.enter 156 vs) w:=by
 have hn:¬Tryz.f156.name = "runtime.NumGoroutine" := by decide +kernel
 have hb:Tryz.f156.body.isSome=true:=by kernel_rfl
 obtain ⟨c,hc⟩:=zG hb
 simp[callFunc,Tryz.func156,hn,hc]
theorem wR (w:World) (vs:Array Value):(callFunc 123 vs).run Tryz.prog w=.ok (.enter 123 vs) w:=by
 have hn:¬Tryz.f123.name = "runtime.NumGoroutine" := by decide +kernel
 have hb:Tryz.f123.body.isSome=true:=by kernel_rfl
 obtain ⟨c,hc⟩:=zG hb
 simp[callFunc,Tryz.func123,hn,hc]
theorem EJ (w:World) (vs:Array Value):(callFunc 127 vs).run Tryz.prog w=.ok (.enter 127 vs) w:=by
 have hn:¬Tryz.f127.name = "runtime.NumGoroutine" := by decide +kernel
 have hb:Tryz.f127.body.isSome=true:=by kernel_rfl
 obtain ⟨c,hc⟩:=zG hb
 simp[callFunc,Tryz.func127,hn,hc]
theorem CM (w:World) (vs:Array Value):(callFunc 124 vs).run Tryz.prog w=.ok (.enter 124 vs) w:=by
 have hn:¬Tryz.f124.name = "runtime.NumGoroutine" := by decide +kernel
 have hb:Tryz.f124.body.isSome=true:=by kernel_rfl
 obtain ⟨c,hc⟩:=zG hb
 simp[callFunc,Tryz.func124,hn,hc]
theorem CO (w:World) (vs:Array Value):(callFunc 172 vs).run Tryz.prog w=.ok (.enter 172 vs) w:=by
 have hn:¬Tryz.f172.name = "runtime.NumGoroutine" := by decide +kernel
 have hb:Tryz.f172.body.isSome=true:=by kernel_rfl
 obtain ⟨c,hc⟩:=zG hb
 simp[callFunc,Tryz.func172,hn,hc]
theorem MY (w:World):(Instr.build 196 #[(0,.int .i64 (-2147483648)),(1,.int .i64 2147483647),(2,.bool true)]).run Tryz.prog w=.ok (.agg #[.int .i64 (-2147483648),.int .i64 2147483647,.bool true]) w:=by
 go_simp
theorem JG {lo b g pm pr:Nat}{nm:ByteArray}{ss:List Slot}{N:(Nat→Prop)→World→Prop}{V W w0:World}{s:aI}{rs:List (Int×Int)}{gs:List ByteArray}{vr vg:Value} (h:Ap lo b g 68 nm ss N V W s w0) (hN:aK N) (hR:ss[1]?=some ⟨111,2,vr,rs.length,kz rs⟩) (hG:ss[2]?=some ⟨9,1,vg,gs.length,bS gs⟩) (hp:0<s.ts.length) (hs:Sm s) (UC:rs.length+s.ts.length≤20000) (UD:gs.length+s.ts.length≤20000)
  (qa:∀P w,N P w→aP pr #[.pointer (some ⟨b,0,none⟩)] 107 P w) (fX:∀P w,N P w→aP pm #[.pointer (some ⟨g,0,none⟩)] 170 P w):Calls Tryz.prog 163 #[.pointer (some ⟨pr,0,none⟩),.pointer (some ⟨pm,0,none⟩)] w0 (AQ lo b g 68 nm ss N V W 1 2 (ki (-2147483648) 2147483647 true rs gs s)):=by
 have hd:=h.up hN (zE w0.heap.size w0).drew
 have cR:w0.drew.cell? ⟨pr,0,none⟩=some (.pointer (some ⟨b,0,none⟩)):=by rw[cell_of_row _ _ _ _ _ _ (qa _ _ hd.nx).1];rfl
 have cM:w0.drew.cell? ⟨pm,0,none⟩=some (.pointer (some ⟨g,0,none⟩)):=by rw[cell_of_row _ _ _ _ _ _ (fX _ _ hd.nx).1];rfl
 go_enter Tryz.func163,Tryz.ntmps163
 refine gU (z:=8) (N:=11) 8 (by kernel_rfl) (fun k=>k+2) (fun k=>[.pointer (some ⟨b,0,none⟩),.agg #[.int .i64 (-2147483648),.int .i64 2147483647,.bool true],.pointer (some ⟨g,0,none⟩),.pointer (some ⟨g,0,none⟩),.pointer (some ⟨g,2,none⟩),.pointer (some ⟨g,0,none⟩),.pointer (some ⟨g,0,none⟩),.pointer (some ⟨g,3,none⟩)].getD k undef) (fun w=>w=w0.drew) (fun _ _=>False) _ w0 rfl rfl (fun i j _ _ e=>by omega) (fun i hi=>by omega) (by kernel_rfl) (by kernel_rfl) rfl ?_ (fun hc=>by omega) ?_
 ·intro k tm w hk _ bR bW aV hw
  rcases hw with rfl|⟨_,hf⟩
  rotate_left
  ·exact hf.elim
  match k,hk with
  |0,_=>exact aS rfl rfl _ (.tmp 0) rfl (bW 0 (by intro i hi;omega)) (cJ _ cR) ⟨rfl,rfl⟩
  |1,_=>exact BO rfl rfl _ _ rfl (#[(0,.int .i64 (-2147483648)),(1,.int .i64 2147483647),(2,.bool true)]) (by simp only[List.map_toArray,List.map_cons,List.map_nil,Act.eval]) (MY _) ⟨rfl,rfl⟩
  |2,_=>exact aS rfl rfl _ (.tmp 1) rfl (bW 1 (by intro i hi;omega)) (vP _ cM) ⟨rfl,rfl⟩
  |3,_=>exact aY rfl rfl (.tmp 4) rfl (aV 2 (by omega) (by kernel_rfl)) ⟨rfl,rfl⟩
  |4,_=>exact bI rfl rfl _ (.tmp 5) _ rfl (aV 3 (by omega) (by kernel_rfl)) (IL _) ⟨rfl,rfl⟩
  |5,_=>exact aS rfl rfl _ (.tmp 1) rfl (bW 1 (by intro i hi;omega)) (vP _ cM) ⟨rfl,rfl⟩
  |6,_=>exact aY rfl rfl (.tmp 7) rfl (aV 5 (by omega) (by kernel_rfl)) ⟨rfl,rfl⟩
  |7,_=>exact bI rfl rfl _ (.tmp 8) _ rfl (aV 6 (by omega) (by kernel_rfl)) (IK _) ⟨rfl,rfl⟩
 ·intro tm w bR bW cZ hw
  rcases hw with ⟨hc,_⟩|⟨_,rfl⟩
  ·omega
  refine b9 rfl rfl 156 (pO _) _ _ rfl #[.pointer (some ⟨b,0,none⟩),.agg #[.int .i64 (-2147483648),.int .i64 2147483647,.bool true],.pointer (some ⟨g,2,none⟩),.pointer (some ⟨g,3,none⟩)] ?_ (pd hd hN (by decide) hR hG hp hs UC UD) ?_
  ·simp only[List.map_toArray,List.map_cons,List.map_nil,Act.eval]
   rw[show tm.getD 2 undef=_ from cZ 0 (by omega) (by omega),show tm.getD 3 undef=_ from cZ 1 (by omega) (by omega),show tm.getD 6 undef=_ from cZ 4 (by omega) (by omega),show tm.getD 9 undef=_ from cZ 7 (by omega) (by omega)]
   rfl
  ·intro e w' hr
   have OS:=hr
   unfold AQ at hr
   cases hq:ki (-2147483648) 2147483647 true rs gs s with
   |error y =>
    rw[hq] at hr OS
    obtain ⟨rfl,hs⟩:=hr
    exact .inr ⟨_,rfl,rfl,OS⟩
   |ok y =>
    rw[hq] at hr OS
    obtain ⟨rfl,hs⟩:=hr
    refine .inl ⟨_,rfl,?_⟩
    go_end0
    exact OS
theorem MZ (w:World):(Instr.build 196 #[(0,.int .i64 1),(1,.int .i64 536870911)]).run Tryz.prog w=.ok (.agg #[.int .i64 1,.int .i64 536870911,.bool false]) w:=by
 go_simp
theorem KZ {lo b g pm pr:Nat}{nm:ByteArray}{ss:List Slot}{N:(Nat→Prop)→World→Prop}{V W w0:World}{s:aI}{rs:List (Int×Int)}{gs:List ByteArray}{vr vg:Value} (h:Ap lo b g 64 nm ss N V W s w0) (hN:aK N) (hR:ss[4]?=some ⟨111,2,vr,rs.length,kz rs⟩) (hG:ss[5]?=some ⟨9,1,vg,gs.length,bS gs⟩) (hp:0<s.ts.length) (hs:Sm s) (UC:rs.length+s.ts.length≤20000) (UD:gs.length+s.ts.length≤20000)
  (qa:∀P w,N P w→aP pr #[.pointer (some ⟨b,0,none⟩)] 107 P w) (fX:∀P w,N P w→aP pm #[.pointer (some ⟨g,0,none⟩)] 167 P w):Calls Tryz.prog 155 #[.pointer (some ⟨pr,0,none⟩),.pointer (some ⟨pm,0,none⟩)] w0 (AQ lo b g 64 nm ss N V W 4 5 (ki 1 536870911 false rs gs s)):=by
 have hd:=h.up hN (zE w0.heap.size w0).drew
 have cR:w0.drew.cell? ⟨pr,0,none⟩=some (.pointer (some ⟨b,0,none⟩)):=by rw[cell_of_row _ _ _ _ _ _ (qa _ _ hd.nx).1];rfl
 have cM:w0.drew.cell? ⟨pm,0,none⟩=some (.pointer (some ⟨g,0,none⟩)):=by rw[cell_of_row _ _ _ _ _ _ (fX _ _ hd.nx).1];rfl
 go_enter Tryz.func155,Tryz.ntmps155
 refine gU (z:=8) (N:=11) 8 (by kernel_rfl) (fun k=>k+2) (fun k=>[.pointer (some ⟨b,0,none⟩),.agg #[.int .i64 1,.int .i64 536870911,.bool false],.pointer (some ⟨g,0,none⟩),.pointer (some ⟨g,0,none⟩),.pointer (some ⟨g,5,none⟩),.pointer (some ⟨g,0,none⟩),.pointer (some ⟨g,0,none⟩),.pointer (some ⟨g,6,none⟩)].getD k undef) (fun w=>w=w0.drew) (fun _ _=>False) _ w0 rfl rfl (fun i j _ _ e=>by omega) (fun i hi=>by omega) (by kernel_rfl) (by kernel_rfl) rfl ?_ (fun hc=>by omega) ?_
 ·intro k tm w hk _ bR bW aV hw
  rcases hw with rfl|⟨_,hf⟩
  rotate_left
  ·exact hf.elim
  match k,hk with
  |0,_=>exact aS rfl rfl _ (.tmp 0) rfl (bW 0 (by intro i hi;omega)) (cJ _ cR) ⟨rfl,rfl⟩
  |1,_=>exact BO rfl rfl _ _ rfl (#[(0,.int .i64 1),(1,.int .i64 536870911)]) (by simp only[List.map_toArray,List.map_cons,List.map_nil,Act.eval]) (MZ _) ⟨rfl,rfl⟩
  |2,_=>exact aS rfl rfl _ (.tmp 1) rfl (bW 1 (by intro i hi;omega)) (cz _ cM) ⟨rfl,rfl⟩
  |3,_=>exact aY rfl rfl (.tmp 4) rfl (aV 2 (by omega) (by kernel_rfl)) ⟨rfl,rfl⟩
  |4,_=>exact bI rfl rfl _ (.tmp 5) _ rfl (aV 3 (by omega) (by kernel_rfl)) (Pt _) ⟨rfl,rfl⟩
  |5,_=>exact aS rfl rfl _ (.tmp 1) rfl (bW 1 (by intro i hi;omega)) (cz _ cM) ⟨rfl,rfl⟩
  |6,_=>exact aY rfl rfl (.tmp 7) rfl (aV 5 (by omega) (by kernel_rfl)) ⟨rfl,rfl⟩
  |7,_=>exact bI rfl rfl _ (.tmp 8) _ rfl (aV 6 (by omega) (by kernel_rfl)) (Ps _) ⟨rfl,rfl⟩
 ·intro tm w bR bW cZ hw
  rcases hw with ⟨hc,_⟩|⟨_,rfl⟩
  ·omega
  refine b9 rfl rfl 156 (pO _) _ _ rfl #[.pointer (some ⟨b,0,none⟩),.agg #[.int .i64 1,.int .i64 536870911,.bool false],.pointer (some ⟨g,5,none⟩),.pointer (some ⟨g,6,none⟩)] ?_ (pd hd hN (by decide) hR hG hp hs UC UD) ?_
  ·simp only[List.map_toArray,List.map_cons,List.map_nil,Act.eval]
   rw[show tm.getD 2 undef=_ from cZ 0 (by omega) (by omega),show tm.getD 3 undef=_ from cZ 1 (by omega) (by omega),show tm.getD 6 undef=_ from cZ 4 (by omega) (by omega),show tm.getD 9 undef=_ from cZ 7 (by omega) (by omega)]
   rfl
  ·intro e w' hr
   have OS:=hr
   unfold AQ at hr
   cases hq:ki 1 536870911 false rs gs s with
   |error y =>
    rw[hq] at hr OS
    obtain ⟨rfl,hs⟩:=hr
    exact .inr ⟨_,rfl,rfl,OS⟩
   |ok y =>
    rw[hq] at hr OS
    obtain ⟨rfl,hs⟩:=hr
    refine .inl ⟨_,rfl,?_⟩
    go_end0
    exact OS
end Go.Proofs.YtmlphohdcejniaaGreatDoor

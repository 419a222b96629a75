import Derived.Test.YtjophoclfccmcaaGreatDoorPbL
set_option maxHeartbeats 4000000
set_option maxRecDepth 100000
namespace Go.Proofs.YtjophoclfccmcaaGreatDoor
open Go.RowKit
attribute [local go_sem ↓] Go.wp_at_zero Go.wp_at_succ
section
variable {P : Program} {ops : Array Oper} {Q : Exit → Act → World → Prop}
def Br (ops:Array Oper):Nat→Nat→Nat→Bool
 |0,a,i=>fG ops a i
 |f+1,a,i=>fG ops a i ||(List.range a).any fun j=>fG ops a j&&Br ops f j i
theorem Dp (D:Nat→Prop) (iL:∀k j,D k→lM ops k j→D j):∀(f a i:Nat),(∀j,lM ops a j→D j)→Br ops f a i=true→D i
 |0,a,i,hD,h=>hD i (eQ h)
 |f+1,a,i,hD,h=>by
  unfold Br at h
  rw[Bool.or_eq_true] at h
  rcases h with h|h
  ·exact hD i (eQ h)
  ·obtain ⟨j,_,h2⟩:=List.any_eq_true.1 h
   rw[Bool.and_eq_true] at h2
   exact Dp D iL f j i (fun k hk=>iL j k (hD j (eQ h2.1)) hk) h2.2
def We (ops:Array Oper) (z:Nat):Bool:=(List.range z).all fun i=>Br ops 4 z i
theorem I2 {z:Nat} (h:We ops z=true):∀D:Nat→Prop,(∀k j,D k→lM ops k j→D j)→(∀j,lM ops z j→D j)→∀i,i<z→D i:=fun D iL hD i hi=>Dp D iL 4 z i hD (List.all_eq_true.1 h i (List.mem_range.2 hi))
theorem p9 {id z N:Nat} (RU:P.follows .mixedOrders=true) (s:Nat→Nat) (G:Array Bool→Array Value→World→Prop) (iP:Array Value) (w0:World)
  (hn:ops.size=z+1) (hN:iP.size=N) (hs:∀i,i<z→s i<N) (D0:Jg ops (z+1)=true) (hz:We ops z=true) (h0:∀d,(∀k,d.getD k false=false)→d.size=z+1→G d iP w0.drew)
  (step:∀k d tm w,k<z→d.size=z+1→(∀k j,d.getD k false=true→lM ops k j→d.getD j false=true)→d.getD k false=false→(∀j,fG ops k j=true→j<k∧d.getD j false=true)→tm.size=N→(∀j,(∀i,i<z→s i≠j)→tm.getD j undef=iP.getD j undef)→G d tm w →
   wpOp P ops Q k (fun a' w'=>∃v,a'=⟨tm.setIfInBounds (s k) v,[]⟩∧G (d.setIfInBounds k true) (tm.setIfInBounds (s k) v) w') ⟨tm,[]⟩ w)
  (last:∀d tm w,(∀j,j<z→d.getD j false=true)→tm.size=N→(∀j,(∀i,i<z→s i≠j)→tm.getD j undef=iP.getD j undef)→G d tm w→wpOp P ops Q z (fun a' w'=>Q .normal a' w') ⟨tm,[]⟩ w) :
  (Code.region id ops true).wp P Q ⟨iP,[]⟩ w0:=by
 have hb:=Jf hn D0
 refine wp_region_any RU (sk (md:=.any) (fun d a w=>d.size=z+1∧(∀k j,d.getD k false=true→lM ops k j→d.getD j false=true)∧((d.getD z false=false∧∃tm,a=⟨tm,[]⟩∧tm.size=N∧(∀j,(∀i,i<z→s i≠j)→tm.getD j undef=iP.getD j undef)∧G d tm w)∨(d.getD z false=true∧Q .normal a w))) ?_ ?_ _ _ _ _ ?_ ?_)
 ·rintro d a w i ⟨hd,iL,Oo⟩ hr
  obtain ⟨hi,uh⟩:=qY hr
  obtain ⟨_,o,ho,ij⟩:=mem_ready.1 hr
  have jM:d.getD i false=false:=by simp[hi,uh]
  have hw:∀k,lM ops i k→d.getD k false=true:=by
   rintro k ⟨o',BU,e,he,hb,rfl⟩
   rw[ho] at BU
   obtain rfl:=zC BU
   exact ij e he hb
  have DY:∀k j,(d.setIfInBounds i true).getD k false=true→lM ops k j→(d.setIfInBounds i true).getD j false=true:=by
   intro k j hk hj
   by_cases e:j=i
   ·subst e
    exact cn hi
   ·rw[aK (Ne.symm e)]
    by_cases e2:k=i
    ·subst e2
     exact hw j hj
    ·rw[aK (Ne.symm e2)] at hk
     exact iL k j hk hj
  have iV:(d.setIfInBounds i true).size=z+1:=by rw[Array.size_setIfInBounds];exact hd
  rcases Oo with ⟨F',tm,rfl,h1,h2,h3⟩|⟨F',hq⟩
  rotate_left
  ·exfalso
   have RY:i<z:=by
    rcases Nat.lt_or_ge i z with q|q
    ·exact q
    ·obtain rfl:i=z:=by omega
     rw[F'] at jM;cases jM
   have:=I2 hz (fun k=>d.getD k false=true) iL (fun j hj=>iL _ _ F' hj) i RY
   rw[this] at jM;cases jM
  by_cases RY:i=z
  ·subst RY
   have km:=I2 hz (fun k=>d.getD k false=true) iL hw
   refine wpOp_mono ?_ (last d tm w km h1 h2 h3)
   intro a' w' hq
   exact ⟨iV,DY,.inr ⟨cn hi,hq⟩⟩
  ·have BV:i<z:=by omega
   refine wpOp_mono ?_ (step i d tm w BV hd iL jM (fun j hj=>⟨?_,hw j (eQ hj)⟩) h1 h2 h3)
   ·rintro a' w' ⟨v,rfl,hg⟩
    refine ⟨iV,DY,.inl ⟨by rw[aK RY];exact F',_,rfl,by rw[Array.size_setIfInBounds];exact h1,fun j hj=>by rw[aK (hj i BV)];exact h2 j hj,hg⟩⟩
   ·obtain ⟨o',BU,e,he,_,rfl⟩:=eQ hj
    exact hb i o' BU e he
 ·rintro d a w ⟨hd,iL,⟨F',_⟩|⟨_,hq⟩⟩ hr
  ·exfalso
   have ij:∀m i,i<m→i<z+1→d.getD i false=true:=by
    intro m
    induction m with
    |zero=>intro i hi;omega
    |succ m ih =>
     intro i hi TD
     obtain ⟨o,ho⟩:∃o,ops[i]?=some o:=⟨_,Array.getElem?_eq_getElem (by omega)⟩
     exact I5 (by omega) hr ho fun e he _=>ih e.on (by have:=hb i o ho e he;omega) (by have:=hb i o ho e he;omega)
   rw[ij (z+1) z (by omega) (by omega)] at F';cases F'
  ·exact hq
 ·have DS:∀k,(Array.replicate ops.size false).getD k false=false:=fun k=>by
   simp[Array.getD_eq_getD_getElem?,Array.getElem?_replicate]
   split<;>simp
  exact ⟨by simp[hn],fun k j hk _=>(by rw[DS k] at hk;cases hk),.inl ⟨DS z,iP,rfl,hN,fun _ _=>rfl,h0 _ DS (by simp[hn])⟩⟩
 ·simp
theorem iS {id z N:Nat} (c:Nat) (RU:P.follows .mixedOrders=true) (s:Nat→Nat) (val:Nat→Value) (Φ0:World→Prop) (Φ1:Value→World→Prop) (iP:Array Value) (w0:World)
  (hn:ops.size=z+1) (hN:iP.size=N) (Ok:∀i j,i<z→j<z→s i=s j→i=j) (hs:∀i,i<z→s i<N) (D0:Jg ops (z+1)=true) (hz:We ops z=true) (h0:Φ0 w0.drew)
  (quiet:∀k tm w,k<z→k≠c→tm.size=N→(∀j,(∀i,i<z→s i≠j)→tm.getD j undef=iP.getD j undef)→(∀j,j≠c→fG ops k j=true→tm.getD (s j) undef=val j)→(Φ0 w∨∃x,Φ1 x w)→wpOp P ops Q k (fun a' w'=>a'=⟨tm.setIfInBounds (s k) (val k),[]⟩∧w'=w) ⟨tm,[]⟩ w)
  (call:c<z→∀tm w,tm.size=N→(∀j,(∀i,i<z→s i≠j)→tm.getD j undef=iP.getD j undef)→(∀j,j≠c→fG ops c j=true→tm.getD (s j) undef=val j)→Φ0 w→wpOp P ops Q c (fun a' w'=>∃x,a'=⟨tm.setIfInBounds (s c) x,[]⟩∧Φ1 x w') ⟨tm,[]⟩ w)
  (last:∀tm w,tm.size=N→(∀j,(∀i,i<z→s i≠j)→tm.getD j undef=iP.getD j undef)→(∀j,j<z→j≠c→tm.getD (s j) undef=val j)→((c<z∧Φ1 (tm.getD (s c) undef) w)∨(z≤c∧Φ0 w))→wpOp P ops Q z (fun a' w'=>Q .normal a' w') ⟨tm,[]⟩ w) :
  (Code.region id ops true).wp P Q ⟨iP,[]⟩ w0:=by
 refine p9 RU s (fun d tm w=>(∀j,j<z→j≠c→d.getD j false=true→tm.getD (s j) undef=val j)∧(((d.getD c false=false∨z≤c)∧Φ0 w)∨(c<z∧d.getD c false=true∧Φ1 (tm.getD (s c) undef) w))) iP w0 hn hN hs D0 hz ?_ ?_ ?_
 ·intro d hd _
  exact ⟨fun j _ _ h=>(by rw[hd j] at h;cases h),.inl ⟨.inl (hd c),h0⟩⟩
 ·intro k d tm w hk hd iL uh hw ck cA hG
  obtain ⟨lT,Ag⟩:=hG
  have a8:∀j,j≠c→fG ops k j=true→tm.getD (s j) undef=val j:=fun j KB hj=>lT j (by have:=(hw j hj).1;omega) KB (hw j hj).2
  by_cases VD:k=c
  ·subst VD
   rcases Ag with ⟨_,h1⟩|⟨_,h1,_⟩
   ·refine wpOp_mono ?_ (call hk tm w ck cA a8 h1)
    rintro a' w' ⟨x,rfl,hx⟩
    refine ⟨x,rfl,fun j hj KB rE=>?_,.inr ⟨hk,cn (by omega),by rw[cn (by rw[ck];exact hs k hk)];exact hx⟩⟩
    rw[aK (Ne.symm KB)] at rE
    rw[aK (fun q=>KB (Ok k j hk hj q).symm)]
    exact lT j hj KB rE
   ·rw[h1] at uh;cases uh
  ·refine wpOp_mono ?_ (quiet k tm w hk VD ck cA a8 (by rcases Ag with ⟨_,h1⟩|⟨_,_,h1⟩;exact .inl h1;exact .inr ⟨_,h1⟩))
   rintro a' w' ⟨rfl,rfl⟩
   refine ⟨_,rfl,fun j hj KB rE=>?_,?_⟩
   ·by_cases e:j=k
    ·subst e
     exact cn (by rw[ck];exact hs j hj)
    ·rw[aK (Ne.symm e)] at rE
     rw[aK (fun q=>e (Ok k j hk hj q).symm)]
     exact lT j hj KB rE
   ·rw[aK VD]
    rcases Ag with h1|⟨h1,h2,h3⟩
    ·exact .inl h1
    ·exact .inr ⟨h1,h2,by rw[aK (fun q=>VD (Ok k c hk h1 q))];exact h3⟩
 ·intro d tm w hd ck cA hG
  refine last tm w ck cA (fun j hj KB=>hG.1 j hj KB (hd j hj)) ?_
  rcases hG.2 with ⟨h1,h2⟩|⟨h1,_,h3⟩
  ·rcases Nat.lt_or_ge c z with q|q
   ·rcases h1 with h1|h1
    ·rw[hd c q] at h1;cases h1
    ·omega
   ·exact .inr ⟨q,h2⟩
  ·exact .inl ⟨h1,h3⟩
theorem nX {i:Nat}{o:Oper}{a:Act}{w:World}{K:Act→World→Prop} (ho:ops[i]?=some o) (hg:o.guard=none) (fn:Fn) (fs cs:Array Operand) (jU:o.op=.makeFunc fn fs cs) (vf vc:Array Value) (hf:fs.map a.eval=vf) (hc:cs.map a.eval=vc) (hK:K (a.put o.dst (.func fn vf vc)) w):wpOp P ops Q i K a w:=by
 refine nW ho hg (v:=.func fn vf vc) (w':=w) ?_ hK
 simp only[execOp,jU,hf,hc]
 exact Il rfl
theorem DA {i:Nat}{o:Oper}{a:Act}{w w':World}{K:Act→World→Prop}{v:Value} (ho:ops[i]?=some o) (hg:o.guard=none) (t:TypeId) (parts:Array (Nat×Operand)) (jU:o.op=.build t parts) (vs:Array (Nat×Value)) (hv:(parts.map fun p=>(p.1,a.eval p.2))=vs) (hr:(Instr.build t vs).run P w=.ok v w') (hK:K (a.put o.dst v) w'):wpOp P ops Q i K a w:=by
 refine nW ho hg (v:=v) (w':=w') ?_ hK
 simp only[execOp,jU,hv]
 exact Il hr
end
end Go.Proofs.YtjophoclfccmcaaGreatDoor
namespace Go.Proofs.YtjophoclfccmcaaGreatDoor
open Go.RowKit
attribute [local go_sem ↓] Go.wp_at_zero Go.wp_at_succ
theorem rU (w:World) (vs:Array Value):(callFunc 149 vs).run Tryz.prog w=.ok (.enter 149 vs) w:=by
 have hn:¬Tryz.f149.name = "runtime.NumGoroutine" := by decide +kernel
 have hb:Tryz.f149.body.isSome=true:=by kernel_rfl
 obtain ⟨c,hc⟩:=zG hb
 simp[callFunc,Tryz.func149,hn,hc]
theorem zg (w:World) (vs:Array Value):(callFunc 124 vs).run Tryz.prog w=.ok (.enter 124 vs) w:=by
 have hn:¬Tryz.f124.name = "runtime.NumGoroutine" := by decide +kernel
 have hb:Tryz.f124.body.isSome=true:=by kernel_rfl
 obtain ⟨c,hc⟩:=zG hb
 simp[callFunc,Tryz.func124,hn,hc]
theorem GC (w:World) (vs:Array Value):(callFunc 128 vs).run Tryz.prog w=.ok (.enter 128 vs) w:=by
 have hn:¬Tryz.f128.name = "runtime.NumGoroutine" := by decide +kernel
 have hb:Tryz.f128.body.isSome=true:=by kernel_rfl
 obtain ⟨c,hc⟩:=zG hb
 simp[callFunc,Tryz.func128,hn,hc]
theorem Eo (w:World) (vs:Array Value):(callFunc 125 vs).run Tryz.prog w=.ok (.enter 125 vs) w:=by
 have hn:¬Tryz.f125.name = "runtime.NumGoroutine" := by decide +kernel
 have hb:Tryz.f125.body.isSome=true:=by kernel_rfl
 obtain ⟨c,hc⟩:=zG hb
 simp[callFunc,Tryz.func125,hn,hc]
theorem Es (w:World) (vs:Array Value):(callFunc 169 vs).run Tryz.prog w=.ok (.enter 169 vs) w:=by
 have hn:¬Tryz.f169.name = "runtime.NumGoroutine" := by decide +kernel
 have hb:Tryz.f169.body.isSome=true:=by kernel_rfl
 obtain ⟨c,hc⟩:=zG hb
 simp[callFunc,Tryz.func169,hn,hc]
theorem PJ (w:World):(Instr.build 175 #[(0,.int .i64 (-2147483648)),(1,.int .i64 2147483647),(2,.bool true)]).run Tryz.prog w=.ok (.agg #[.int .i64 (-2147483648),.int .i64 2147483647,.bool true]) w:=by
 go_simp
theorem LZ {lo b g pm pr:Nat}{nm:ByteArray}{ss:List Slot}{N:(Nat→Prop)→World→Prop}{V W w0:World}{s:ay}{rs:List (Int×Int)}{gs:List ByteArray}{vr vg:Value} (h:Ap lo b g 71 nm ss N V W s w0) (hN:aQ N) (hR:ss[1]?=some ⟨98,2,vr,rs.length,qG rs⟩) (hG:ss[2]?=some ⟨9,1,vg,gs.length,dR gs⟩) (hp:0<s.ts.length) (hs:Sm s) (Xy:rs.length+s.ts.length≤20000) (Xz:gs.length+s.ts.length≤20000)
  (pN:∀P w,N P w→aW pr #[.pointer (some ⟨b,0,none⟩)] 74 P w) (fh:∀P w,N P w→aW pm #[.pointer (some ⟨g,0,none⟩)] 161 P w):Calls Tryz.prog 156 #[.pointer (some ⟨pr,0,none⟩),.pointer (some ⟨pm,0,none⟩)] w0 (Cw lo b g 71 nm ss N V W 1 2 (jZ (-2147483648) 2147483647 true rs gs s)):=by
 have hd:=h.up hN (zE w0.heap.size w0).drew
 have cR:w0.drew.cell? ⟨pr,0,none⟩=some (.pointer (some ⟨b,0,none⟩)):=by rw[cell_of_row _ _ _ _ _ _ (pN _ _ hd.nx).1];rfl
 have cM:w0.drew.cell? ⟨pm,0,none⟩=some (.pointer (some ⟨g,0,none⟩)):=by rw[cell_of_row _ _ _ _ _ _ (fh _ _ hd.nx).1];rfl
 go_enter Tryz.func156,Tryz.ntmps156
 refine iS (z:=8) (N:=11) 8 (by kernel_rfl) (fun k=>k+2) (fun k=>[.pointer (some ⟨b,0,none⟩),.agg #[.int .i64 (-2147483648),.int .i64 2147483647,.bool true],.pointer (some ⟨g,0,none⟩),.pointer (some ⟨g,0,none⟩),.pointer (some ⟨g,2,none⟩),.pointer (some ⟨g,0,none⟩),.pointer (some ⟨g,0,none⟩),.pointer (some ⟨g,3,none⟩)].getD k undef) (fun w=>w=w0.drew) (fun _ _=>False) _ w0 rfl rfl (fun i j _ _ e=>by omega) (fun i hi=>by omega) (by kernel_rfl) (by kernel_rfl) rfl ?_ (fun hc=>by omega) ?_
 ·intro k tm w hk _ ck cA a8 hw
  rcases hw with rfl|⟨_,hf⟩
  rotate_left
  ·exact hf.elim
  match k,hk with
  |0,_=>exact aY rfl rfl _ (.tmp 0) rfl (cA 0 (by intro i hi;omega)) (dh _ cR) ⟨rfl,rfl⟩
  |1,_=>exact DA rfl rfl _ _ rfl (#[(0,.int .i64 (-2147483648)),(1,.int .i64 2147483647),(2,.bool true)]) (by simp only[List.map_toArray,List.map_cons,List.map_nil,Act.eval]) (PJ _) ⟨rfl,rfl⟩
  |2,_=>exact aY rfl rfl _ (.tmp 1) rfl (cA 1 (by intro i hi;omega)) (yC _ cM) ⟨rfl,rfl⟩
  |3,_=>exact bc rfl rfl (.tmp 4) rfl (a8 2 (by omega) (by kernel_rfl)) ⟨rfl,rfl⟩
  |4,_=>exact bV rfl rfl _ (.tmp 5) _ rfl (a8 3 (by omega) (by kernel_rfl)) (KW _) ⟨rfl,rfl⟩
  |5,_=>exact aY rfl rfl _ (.tmp 1) rfl (cA 1 (by intro i hi;omega)) (yC _ cM) ⟨rfl,rfl⟩
  |6,_=>exact bc rfl rfl (.tmp 7) rfl (a8 5 (by omega) (by kernel_rfl)) ⟨rfl,rfl⟩
  |7,_=>exact bV rfl rfl _ (.tmp 8) _ rfl (a8 6 (by omega) (by kernel_rfl)) (KV _) ⟨rfl,rfl⟩
 ·intro tm w ck cA dA hw
  rcases hw with ⟨hc,_⟩|⟨_,rfl⟩
  ·omega
  refine cF rfl rfl 149 (rU _) _ _ rfl #[.pointer (some ⟨b,0,none⟩),.agg #[.int .i64 (-2147483648),.int .i64 2147483647,.bool true],.pointer (some ⟨g,2,none⟩),.pointer (some ⟨g,3,none⟩)] ?_ (qX hd hN (by decide) hR hG hp hs Xy Xz) ?_
  ·simp only[List.map_toArray,List.map_cons,List.map_nil,Act.eval]
   rw[show tm.getD 2 undef=_ from dA 0 (by omega) (by omega),show tm.getD 3 undef=_ from dA 1 (by omega) (by omega),show tm.getD 6 undef=_ from dA 4 (by omega) (by omega),show tm.getD 9 undef=_ from dA 7 (by omega) (by omega)]
   rfl
  ·intro e w' hr
   have Od:=hr
   unfold Cw at hr
   cases hq:jZ (-2147483648) 2147483647 true rs gs s with
   |error y =>
    rw[hq] at hr Od
    obtain ⟨rfl,hs⟩:=hr
    exact .inr ⟨_,rfl,rfl,Od⟩
   |ok y =>
    rw[hq] at hr Od
    obtain ⟨rfl,hs⟩:=hr
    refine .inl ⟨_,rfl,?_⟩
    go_end0
    exact Od
theorem PK (w:World):(Instr.build 175 #[(0,.int .i64 1),(1,.int .i64 536870911)]).run Tryz.prog w=.ok (.agg #[.int .i64 1,.int .i64 536870911,.bool false]) w:=by
 go_simp
theorem Nv {lo b g pm pr:Nat}{nm:ByteArray}{ss:List Slot}{N:(Nat→Prop)→World→Prop}{V W w0:World}{s:ay}{rs:List (Int×Int)}{gs:List ByteArray}{vr vg:Value} (h:Ap lo b g 49 nm ss N V W s w0) (hN:aQ N) (hR:ss[4]?=some ⟨98,2,vr,rs.length,qG rs⟩) (hG:ss[5]?=some ⟨9,1,vg,gs.length,dR gs⟩) (hp:0<s.ts.length) (hs:Sm s) (Xy:rs.length+s.ts.length≤20000) (Xz:gs.length+s.ts.length≤20000)
  (pN:∀P w,N P w→aW pr #[.pointer (some ⟨b,0,none⟩)] 74 P w) (fh:∀P w,N P w→aW pm #[.pointer (some ⟨g,0,none⟩)] 158 P w):Calls Tryz.prog 148 #[.pointer (some ⟨pr,0,none⟩),.pointer (some ⟨pm,0,none⟩)] w0 (Cw lo b g 49 nm ss N V W 4 5 (jZ 1 536870911 false rs gs s)):=by
 have hd:=h.up hN (zE w0.heap.size w0).drew
 have cR:w0.drew.cell? ⟨pr,0,none⟩=some (.pointer (some ⟨b,0,none⟩)):=by rw[cell_of_row _ _ _ _ _ _ (pN _ _ hd.nx).1];rfl
 have cM:w0.drew.cell? ⟨pm,0,none⟩=some (.pointer (some ⟨g,0,none⟩)):=by rw[cell_of_row _ _ _ _ _ _ (fh _ _ hd.nx).1];rfl
 go_enter Tryz.func148,Tryz.ntmps148
 refine iS (z:=8) (N:=11) 8 (by kernel_rfl) (fun k=>k+2) (fun k=>[.pointer (some ⟨b,0,none⟩),.agg #[.int .i64 1,.int .i64 536870911,.bool false],.pointer (some ⟨g,0,none⟩),.pointer (some ⟨g,0,none⟩),.pointer (some ⟨g,5,none⟩),.pointer (some ⟨g,0,none⟩),.pointer (some ⟨g,0,none⟩),.pointer (some ⟨g,6,none⟩)].getD k undef) (fun w=>w=w0.drew) (fun _ _=>False) _ w0 rfl rfl (fun i j _ _ e=>by omega) (fun i hi=>by omega) (by kernel_rfl) (by kernel_rfl) rfl ?_ (fun hc=>by omega) ?_
 ·intro k tm w hk _ ck cA a8 hw
  rcases hw with rfl|⟨_,hf⟩
  rotate_left
  ·exact hf.elim
  match k,hk with
  |0,_=>exact aY rfl rfl _ (.tmp 0) rfl (cA 0 (by intro i hi;omega)) (dh _ cR) ⟨rfl,rfl⟩
  |1,_=>exact DA rfl rfl _ _ rfl (#[(0,.int .i64 1),(1,.int .i64 536870911)]) (by simp only[List.map_toArray,List.map_cons,List.map_nil,Act.eval]) (PK _) ⟨rfl,rfl⟩
  |2,_=>exact aY rfl rfl _ (.tmp 1) rfl (cA 1 (by intro i hi;omega)) (cT _ cM) ⟨rfl,rfl⟩
  |3,_=>exact bc rfl rfl (.tmp 4) rfl (a8 2 (by omega) (by kernel_rfl)) ⟨rfl,rfl⟩
  |4,_=>exact bV rfl rfl _ (.tmp 5) _ rfl (a8 3 (by omega) (by kernel_rfl)) (Sw _) ⟨rfl,rfl⟩
  |5,_=>exact aY rfl rfl _ (.tmp 1) rfl (cA 1 (by intro i hi;omega)) (cT _ cM) ⟨rfl,rfl⟩
  |6,_=>exact bc rfl rfl (.tmp 7) rfl (a8 5 (by omega) (by kernel_rfl)) ⟨rfl,rfl⟩
  |7,_=>exact bV rfl rfl _ (.tmp 8) _ rfl (a8 6 (by omega) (by kernel_rfl)) (Su _) ⟨rfl,rfl⟩
 ·intro tm w ck cA dA hw
  rcases hw with ⟨hc,_⟩|⟨_,rfl⟩
  ·omega
  refine cF rfl rfl 149 (rU _) _ _ rfl #[.pointer (some ⟨b,0,none⟩),.agg #[.int .i64 1,.int .i64 536870911,.bool false],.pointer (some ⟨g,5,none⟩),.pointer (some ⟨g,6,none⟩)] ?_ (qX hd hN (by decide) hR hG hp hs Xy Xz) ?_
  ·simp only[List.map_toArray,List.map_cons,List.map_nil,Act.eval]
   rw[show tm.getD 2 undef=_ from dA 0 (by omega) (by omega),show tm.getD 3 undef=_ from dA 1 (by omega) (by omega),show tm.getD 6 undef=_ from dA 4 (by omega) (by omega),show tm.getD 9 undef=_ from dA 7 (by omega) (by omega)]
   rfl
  ·intro e w' hr
   have Od:=hr
   unfold Cw at hr
   cases hq:jZ 1 536870911 false rs gs s with
   |error y =>
    rw[hq] at hr Od
    obtain ⟨rfl,hs⟩:=hr
    exact .inr ⟨_,rfl,rfl,Od⟩
   |ok y =>
    rw[hq] at hr Od
    obtain ⟨rfl,hs⟩:=hr
    refine .inl ⟨_,rfl,?_⟩
    go_end0
    exact Od
theorem tP {lo hi:Int}{mi:Bool}{s s1:ay}{n:Int} (h:dY lo hi mi s=.ok (n,s1)):Gt s s1:=by
 unfold dY at h
 split at h
 ·cases h
 ·rename_i u s2 h2
  split at h
  ·cases h
  ·rename_i m s3 h3
   split at h
   ·cases h
   ·split at h
    ·cases h
    ·rename_i u4 s4 h4
     simp only[Except.ok.injEq,Prod.mk.injEq] at h
     obtain ⟨_,rfl⟩:=h
     exact ((bw h2).gt (sS h3)).eA (bw h4)
theorem kT {s s1:ay}{x:ByteArray} (h:aR s=.ok (x,s1)) (he:s.en.kind=5):0<s.ts.length:=bN he (by rw[(jz h).2.2];decide)
theorem yU {s s1:ay}{v:ByteArray×Int} (h:dd s=.ok (v,s1)):Gt s s1∧(s.en.kind=5→0<s.ts.length):=by
 unfold dd at h
 split at h
 ·cases h
 ·rename_i x s2 h2
  split at h
  ·cases h
  ·rename_i n s3 h3
   simp only[Except.ok.injEq,Prod.mk.injEq] at h
   obtain ⟨_,rfl⟩:=h
   exact ⟨(gm (s:=s.begun) h2).eA (tP h3).gi,fun he=>kT (s:=s.begun) h2 he⟩
theorem yV {bl bh:Int}{bm:Bool}{rs:List (Int×Int)}{gs:List ByteArray}{s s':ay}{l:List (Int×Int)×List ByteArray} (h:jZ bl bh bm rs gs s=.ok (l,s')):Gt s s':=by
 unfold jZ at h
 split at h
 ·cases h
 ·rename_i u s1 h1
  split at h
  ·split at h
   ·cases h
   ·rename_i l2 s2 h2
    simp only[Except.ok.injEq,Prod.mk.injEq] at h
    obtain ⟨_,rfl⟩:=h
    exact (dW h1).eA (qR (fun s a s1 h=>(oV h).gi) h2)
  ·split at h
   ·cases h
   ·rename_i l2 s2 h2
    simp only[Except.ok.injEq,Prod.mk.injEq] at h
    obtain ⟨_,rfl⟩:=h
    exact (dW h1).eA (qR (fun s a s1 h=>(sR h).gi) h2)
theorem gX {σ:Type}{F:ByteArray→Option (kG σ)}{O:kG σ} (hF:∀k f,F k=some f→∀x s x' s',f x s=.ok (x',s')→Gt s s') (hO:∀x s x' s',O x s=.ok (x',s')→Gt s s'∧(s.en.kind=5→0<s.ts.length)) {x x':σ}{s s':ay} (h:bU F O x s=.ok (x',s')):Gt s s'∧(s.en.kind=5→0<s.ts.length):=by
 unfold bU at h
 split at h
 ·cases h
 ·rename_i s1 h1
  simp only[Except.ok.injEq,Prod.mk.injEq] at h
  obtain ⟨_,rfl⟩:=h
  rcases mT h1 with ⟨e,_⟩|⟨_,h2,h3⟩
  ·cases e
  ·exact ⟨.tail h2 (H' h1),fun he=>bN he (by rw[h3];decide)⟩
 ·split at h
  ·rename_i f hf
   split at h
   ·rename_i hk
    exact ⟨hF _ _ hf _ _ _ _ h,fun he=>bN he (by rw[hk];decide)⟩
   ·exact hO _ _ _ _ h
  ·exact hO _ _ _ _ h
theorem xd {σ:Type}{F:ByteArray→Option (kG σ)}{O:kG σ} (hF:∀k f,F k=some f→∀x s x' s',f x s=.ok (x',s')→Gt s s') (hO:∀x s x' s',O x s=.ok (x',s')→Gt s s'∧(s.en.kind=5→0<s.ts.length)) {x x':σ}{s s':ay} (he:s.en.kind=5) (h:bU F O x s=.ok (x',s')):s'.ts.length<s.ts.length:=by
 obtain ⟨h1,h2⟩:=gX hF hO h
 exact h1.lt (h2 he)
theorem AD {σ:Type}{st:kG σ} (yG:∀x s x' s',st x s=.ok (x',s')→jk s s'):∀(n:Nat) (x:σ) (s:ay) (x':σ) (s':ay),jv st n x s=.ok (x',s')→jk s s'∧aJ s'.here 4 ⟨#[125]⟩=true
 |0,_,_,_,_,h=>by cases h
 |n+1,x,s,x',s',h=>by
  unfold jv at h
  split at h
  ·rename_i hp
   simp only[Except.ok.injEq,Prod.mk.injEq] at h
   obtain ⟨_,rfl⟩:=h
   exact ⟨.refl _,hp⟩
  ·split at h
   ·cases h
   ·rename_i x1 s1 h1
    obtain ⟨h2,h3⟩:=AD yG n _ _ _ _ h
    exact ⟨(yG _ _ _ _ h1).trans h2,h3⟩
theorem mq {σ:Type}{st:kG σ} (yG:∀x s x' s',st x s=.ok (x',s')→jk s s') {x x':σ}{s s':ay} (h:jj st x s=.ok (x',s')):jk s s'∧aJ s'.here 4 ⟨#[125]⟩=true:=by
 unfold jj at h
 split at h
 ·cases h
 ·rename_i u s1 h1
  obtain ⟨h2,h3⟩:=AD yG _ _ _ _ _ h
  exact ⟨(bw h1).trans h2,h3⟩
theorem sD {t:Tk}{k:Int}{x:ByteArray} (h:aJ t k x=true):t.kind=k:=by
 unfold aJ at h
 rw[Bool.and_eq_true] at h
 exact eq_of_beq h.1
def dv {σ:Type}:kG σ:=fun _ s=>.error (52,s.here.spot)
noncomputable def Gr:kG En:=fun x s=>match dd s with
 |.error e=>.error e
 |.ok (v,s')=>.ok ({ x with bS:=x.bS++[v] },s')
noncomputable def enR:kG En:=fun x s=>match jZ (-2147483648) 2147483647 true x.res x.gone s with
 |.error e=>.error e
 |.ok (l,s')=>.ok ({ x with res:=l.1,gone:=l.2 },s')
noncomputable def I3:ByteArray→Option (kG En):=fun k=>if (k==⟨#[114,101,115,101,114,118,101,100]⟩)=true then some enR else if (k==⟨#[111,112,116,105,111,110]⟩)=true then some dv else none
theorem Cc (x:En) (s:ay) (x':En) (s':ay) (h:Gr x s=.ok (x',s')):Gt s s'∧(s.en.kind=5→0<s.ts.length):=by
 unfold Gr at h
 split at h
 ·cases h
 ·rename_i v s1 h1
  simp only[Except.ok.injEq,Prod.mk.injEq] at h
  obtain ⟨_,rfl⟩:=h
  exact yU h1
theorem Cb (k:ByteArray) (f:kG En) (hf:I3 k=some f) (x:En) (s:ay) (x':En) (s':ay) (h:f x s=.ok (x',s')):Gt s s':=by
 unfold I3 at hf
 split at hf
 ·obtain rfl:=zC hf
  unfold enR at h
  split at h
  ·cases h
  ·rename_i l s1 h1
   simp only[Except.ok.injEq,Prod.mk.injEq] at h
   obtain ⟨_,rfl⟩:=h
   exact yV h1
 ·split at hf
  ·obtain rfl:=zC hf
   cases h
  ·cases hf
noncomputable def db (s:ay):Except (Int×Int) (En×ay):=match bz s.begun with
 |.error e=>.error e
 |.ok (_,s1)=>match aR s1 with
  |.error e=>.error e
  |.ok (nm,s2)=>match jj (bU I3 Gr) ⟨nm,[],[],[]⟩ s2 with
   |.error e=>.error e
   |.ok (x,s3)=>if x.bS.length=0 then .error (bR s3) else match bz s3 with
    |.error e=>.error e
    |.ok (_,s4)=>.ok (x,s4)
theorem rF {s s':ay}{x:En} (h:db s=.ok (x,s')):Gt s s':=by
 unfold db at h
 split at h
 ·cases h
 ·rename_i u s1 h1
  split at h
  ·cases h
  ·rename_i nm s2 h2
   split at h
   ·cases h
   ·rename_i x3 s3 h3
    split at h
    ·cases h
    ·split at h
     ·cases h
     ·rename_i u4 s4 h4
      simp only[Except.ok.injEq,Prod.mk.injEq] at h
      obtain ⟨_,rfl⟩:=h
      exact (((dW (s:=s.begun) h1).eA (gm h2).gi).eA (mq (fun x s x' s' h=>(gX Cb Cc h).1.gi) h3).1).eA (dW h4).gi
def ESl (x:En) (vv vr vg:Value):List Slot:=[⟨73,2,vv,x.bS.length,KX x.bS⟩,⟨98,2,vr,x.res.length,qG x.res⟩,⟨9,1,vg,x.gone.length,dR x.gone⟩]
def QB (lo b g:Nat) (nm:ByteArray) (N:(Nat→Prop)→World→Prop) (V W:World) (x:En) (s:ay) (w:World):Prop:=x.name=nm∧(∃vv vr vg,Ap lo b g 71 nm (ESl x vv vr vg) N V W s w)∧(x.bS.length+s.ts.length≤20000∧x.res.length+s.ts.length≤20000∧x.gone.length+s.ts.length≤20000)∧Sm s∧s.ts.length≤16384
theorem QB.step {lo b g:Nat}{nm:ByteArray}{N:(Nat→Prop)→World→Prop}{V W w w':World}{x:En}{s s':ay} (h:QB lo b g nm N V W x s w) (hN:aQ N) (hr:Rd lo w' b s') (hg:w.grownBy w' (some b)) (hs:jk s s'):QB lo b g nm N V W x s' w':=by
 obtain ⟨h0,⟨vv,vr,vg,bd⟩,hl,fJ,hn⟩:=h
 have:=hs.len
 exact ⟨h0,⟨vv,vr,vg,bd.read hN hr hg⟩,⟨by omega,by omega,by omega⟩,hs.sm fJ,by omega⟩
theorem dH {σ:Type}{I:σ→ay→World→Prop}{Er:World→Prop}{lo b:Nat}{x:σ}{s:ay}{w:World} (hr:Rd lo w b s) (he:∀w',w.grownBy w' (some b)→Er w'):nu (.func (.func 106) #[.pointer (some ⟨b,0,none⟩)] #[]) #[] w (IP I Er (dv x s)):=by
 refine ⟨_,_,_,rfl,GI w,?_⟩
 refine (kS hr).mono ?_
 rintro e w' ⟨rfl,hb⟩
 exact ⟨rfl,he w' (aD b hb)⟩
theorem Wf {lo b g p1 pv:Nat}{nm:ByteArray}{N:(Nat→Prop)→World→Prop}{V W:World} (hN:aQ N) (pN:∀P w,N P w→aW p1 #[.pointer (some ⟨b,0,none⟩)] 74 P w) (fh:∀P w,N P w→aW pv #[.pointer (some ⟨b,0,none⟩)] 74 P w) (px:∀P w,N P w→aW (pv+1) #[.pointer (some ⟨g,0,none⟩)] 161 P w) (hm:∀P w,N P w→iJ (pv+2) (lC pv b) P w) :
  EE (QB lo b g nm N V W) (Sv g b W) lo b (pv+2) (lC pv b) (.func (.func 129) #[] #[.pointer (some ⟨g,0,none⟩),.pointer (some ⟨p1,0,none⟩)]) I3 Gr:=by
 have her:∀x s w w',QB lo b g nm N V W x s w→w.grownBy w' (some b)→Sv g b W w':=by
  rintro x s w w' ⟨_,⟨vv,vr,vg,bd⟩,_⟩ hg
  exact bd.sv.trans (Sv.of hg (by have:=bd.bx.lt;omega))
 refine ⟨fun x s w h=>?_,fun x s w s' w' h hr hg hs=>h.step hN hr hg hs,her,fun x s w h=>?_,fun k=>?_,fun k v f hv hf x s w h hk ht=>?_,fun x s w h=>?_⟩
 ·obtain ⟨_,⟨vv,vr,vg,bd⟩,_⟩:=h
  exact bd.rd
 ·obtain ⟨_,⟨vv,vr,vg,bd⟩,_⟩:=h
  exact ⟨_,hm _ _ bd.nx⟩
 ·unfold lC I3
  simp only[jQ]
  by_cases q1:(k==⟨#[114,101,115,101,114,118,101,100]⟩)=true
  ·exact .inr ⟨_,_,_,_,by rw[if_pos q1],by rw[if_pos q1]⟩
  ·rw[if_neg q1,if_neg q1]
   by_cases q2:(k==⟨#[111,112,116,105,111,110]⟩)=true
   ·exact .inr ⟨_,_,_,_,by rw[if_pos q2],by rw[if_pos q2]⟩
   ·exact .inl ⟨by rw[if_neg q2],by rw[if_neg q2]⟩
 ·unfold lC at hv
  unfold I3 at hf
  simp only[jQ] at hv
  have h0:=h
  obtain ⟨jq,⟨vv,vr,vg,bd⟩,⟨l1,l2,l3⟩,fJ,hn⟩:=h
  by_cases q1:(k==⟨#[114,101,115,101,114,118,101,100]⟩)=true
  ·rw[if_pos q1] at hv hf
   obtain rfl:=zC hv
   obtain rfl:=zC hf
   refine ⟨_,_,_,rfl,Cn w,?_⟩
   refine (LZ (pm:=pv+1) (pr:=pv) (rs:=x.res) (gs:=x.gone) (vr:=vr) (vg:=vg) bd hN rfl rfl (bN bd.rd.grown (by rw[hk];decide)) fJ l2 l3 fh px).mono ?_
   intro e w' hr
   unfold Cw at hr
   unfold enR
   cases hq:jZ (-2147483648) 2147483647 true x.res x.gone s with
   |error y =>
    rw[hq] at hr
    exact hr
   |ok y =>
    rw[hq] at hr
    obtain ⟨he,⟨v1,v2,ig⟩,k1,k2,k3⟩:=hr
    have dB:=(yV hq).gi.len
    exact ⟨he,jq,⟨vv,v1,v2,ig⟩,⟨by simp only;omega,k1,k2⟩,k3,by omega⟩
  ·rw[if_neg q1] at hv hf
   by_cases q2:(k==⟨#[111,112,116,105,111,110]⟩)=true
   ·rw[if_pos q2] at hv hf
    obtain rfl:=zC hv
    obtain rfl:=zC hf
    exact dH bd.rd (fun w' hg=>her x s w w' h0 hg)
   ·rw[if_neg q2] at hv
    cases hv
 ·have h0:=h
  obtain ⟨jq,⟨vv,vr,vg,bd⟩,⟨l1,l2,l3⟩,fJ,hn⟩:=h
  refine ⟨_,_,_,rfl,GJ w,?_⟩
  refine (KY (pr:=p1) (bt:=24) (r:=dd s) (sl:=⟨73,2,vv,x.bS.length,KX x.bS⟩) (N1:=fun a x _ _=>x=Qv a) bd hN (fun _ _=>fun _ _ _ _ _ h=>h) rfl (Sq rfl rfl) (by simp only;omega) (fun P w hw c hc=>?_) (fun w' l7=>(JE l7.ev l7.rd fJ).mono fun e w2 h2=>h2.cr)).mono ?_
  ·simp only[List.mem_cons,List.not_mem_nil,or_false] at hc
   subst hc
   exact pN P w hw
  ·intro e w' hw
   unfold Gr
   rcases CP.plain Sx hw with ⟨y,hr,rfl,hs⟩|⟨a,s',y,hr,rfl,h2⟩
   ·rw[hr]
    exact ⟨rfl,hs⟩
   ·rw[hr]
    obtain ⟨h3,h4⟩:=yU hr
    have h5:=h3.lt (h4 bd.rd.grown)
    refine ⟨rfl,jq,⟨y,vr,vg,h2⟩,⟨?_,by simp only;omega,by simp only;omega⟩,h3.gi.sm fJ,by omega⟩
    simp only[zK,List.length_singleton]
    omega
theorem Mt:(Tryz.prog.info? 71).map (·.size)=some 4:=by kernel_rfl
theorem cC {w:World}{g:Nat}{a0 a1 a2 a3:Value}{t:TypeId} (h:w.heap[g]?=some (.cells #[a0,a1,a2,a3] t (0,0))):(w.cell? ⟨g,0,none⟩=some a0∧w.cell? ⟨g,1,none⟩=some a1∧w.cell? ⟨g,2,none⟩=some a2∧w.cell? ⟨g,3,none⟩=some a3)∧∀j,w.frozen? ⟨g,j,none⟩=false:=by
 refine ⟨⟨?_,?_,?_,?_⟩,fun j=>by simp[World.frozen?,h]⟩<;>rw[cell_of_row _ _ _ _ _ _ h]<;>rfl
def gN (w:World) (g:Nat) (a0 a1 a2 a3:Value):World:=(((w.setCell ⟨g,0,none⟩ a0).setCell ⟨g,1,none⟩ a1).setCell ⟨g,2,none⟩ a2).setCell ⟨g,3,none⟩ a3
theorem mV {w:World}{g:Nat}{b0 b1 b2 b3:Value}{t:TypeId} (h:w.heap[g]?=some (.cells #[b0,b1,b2,b3] t (0,0))) (a0 a1 a2 a3:Value):(gN w g a0 a1 a2 a3).heap[g]?=some (.cells #[a0,a1,a2,a3] t (0,0))∧w.grownBy (gN w g a0 a1 a2 a3) (some g):=by
 obtain ⟨h0,g0⟩:=aC (j:=0) h a0
 obtain ⟨h1,g1⟩:=aC (j:=1) h0 a1
 obtain ⟨h2,g2⟩:=aC (j:=2) h1 a2
 obtain ⟨h3,g3⟩:=aC (j:=3) h2 a3
 exact ⟨h3,((g0.trans g1).trans g2).trans g3⟩
theorem jO {W0 W1 w:World}{g b:Nat} (h:W0.grownBy W1 (some b)) (k:Sv g b W1 w) (hl:W0.heap.size≤g):W0.grownBy w (some b):=⟨k.os.trans h.os,k.tape.trans h.tape,k.output.trans h.output,Nat.le_trans h.size k.size,fun i h1 h2=>(k.block i (by omega) (by simpa using h2)).trans (h.block i h1 h2)⟩
noncomputable def Ef:Code:=match Tryz.f105.body with
 |some (.seq _ (.seq _ (.seq _ (.seq _ t))))=>t
 |_=>.skip
noncomputable def O6 (t:Code):Code:=match Tryz.f105.body with
 |some (.seq a (.seq b (.seq c (.seq d _))))=>.seq a (.seq b (.seq c (.seq d t)))
 |_=>.skip
theorem O0:Tryz.f105.body=some (O6 Ef):=rfl
noncomputable def Sz:Code:=match Ef with
 |.seq _ t=>t
 |_=>.skip
noncomputable def aao:Code:=match Ef with
 |.seq a _=>a
 |_=>.skip
theorem KZ:Ef=.seq aao Sz:=rfl
noncomputable def tS (x:En) (s:ay):Except (Int×Int) (En×ay):=if x.bS.length=0 then .error (bR s) else match bz s with
 |.error e=>.error e
 |.ok (_,s4)=>.ok (x,s4)
theorem O7 {lo b g p1 p2:Nat}{nm:ByteArray}{N:(Nat→Prop)→World→Prop}{V W0 W1 w:World}{x:En}{s:ay}{e0 e1 e2 e3:Value} (h:QB lo b g nm N V W1 x s w) (hN:aQ N) (pN:∀P w,N P w→aW p1 #[.pointer (some ⟨b,0,none⟩)] 74 P w) (fh:∀P w,N P w→aW p2 #[e0,e1,e2,e3] 71 P w)
  (bD:aJ s.here 4 ⟨#[125]⟩=true) (IG:W0.grownBy W1 (some b)) (ji:lo≤W0.heap.size∧W0.heap.size≤p2∧p2<g) {tm:Array Value} (ck:tm.size=25) (j7:Jc tm [(1,.pointer (some ⟨p1,0,none⟩)),(2,.pointer (some ⟨p2,0,none⟩)),(3,.pointer (some ⟨g,0,none⟩))]) {R:Ending→World→Prop}
  (hR:∀e w,CR lo b NE W0 (tS x s) e w→R e w):Sz.wp Tryz.prog (bodyPost Tryz.prog Tryz.f105 R) ⟨tm,[]⟩ w:=by
 have HR:=ab hR
 obtain ⟨jq,⟨vv,vr,vg,bd⟩,hl,fJ,hn⟩:=h
 obtain ⟨va,vc,Ts⟩:=bZ (bd.bx.own 0 _ rfl)
 obtain ⟨ra,rc,hvr⟩:=bZ (bd.bx.own 1 _ rfl)
 obtain ⟨ga,gc,hvg⟩:=bZ (bd.bx.own 2 _ rfl)
 simp only at Ts hvr hvg
 subst Ts hvr hvg
 obtain ⟨⟨b0,b1,b2,b3⟩,bf⟩:=cC bd.bx.lA
 have c1:w.cell? ⟨p1,0,none⟩=some (.pointer (some ⟨b,0,none⟩)):=by rw[cell_of_row _ _ _ _ _ _ (pN _ _ bd.nx).1];rfl
 have HA:=ab bd
 have HN:=ab hN
 have Xe:=ab pN
 have E6:=ab fh
 have Xa:=ab bD
 have Ud:=ab IG
 have P1:=ab ji
 have Hnm:=ab jq
 have hlen:x.bS.length≤20000:=by omega
 obtain ⟨L,hL⟩:∃L,x.bS.length=L:=⟨_,rfl⟩
 have HL:=ab hL
 rw[hL] at b1 hlen
 obtain ⟨u,rfl⟩:=B4 ck
 obtain ⟨f1,f2,f3,_⟩:=j7
 replace f1:u 1=.pointer (some ⟨p1,0,none⟩):=zC f1
 replace f2:u 2=.pointer (some ⟨p2,0,none⟩):=zC f2
 replace f3:u 3=.pointer (some ⟨g,0,none⟩):=zC f3
 rw[f1,f2,f3]
 clear f1 f2 f3 ck hR bd hN pN fh bD IG ji hl fJ hn jq hL bf
 obtain ⟨Q,hQ⟩:∃Q,bodyPost Tryz.prog Tryz.f105 R=Q:=⟨_,rfl⟩
 rw[hQ]
 unfold Sz Ef
 dsimp only[Tryz.f105]
 have ZT:∀y w',tS x s=.error y→w.grownBy w' (some b)→R (qv y.1 y.2) w':=fun y w' hy hg=>aa HR _ _ (by rw[hy];exact ⟨rfl,jO (aa Ud) ((aa HA).sv.trans (Sv.of hg (by have:=(aa HA).bx.lt;omega))) (by have:=aa P1;omega)⟩)
 have W7:=ab ZT
 clear ZT
 by_cases hz:L=0
 ·subst hz
  have HW:=ab (jn (aa HA).rd)
  go_wp2_with fail
  refine (aa HW).mono ?_
  rintro e w2 ⟨rfl,br⟩
  rw[←hQ]
  refine ⟨rfl,aa W7 (bR s) w2 ?_ (aD b br)⟩
  unfold tS
  rw[if_pos (aa HL)]
 ·have jK:((L:Int)==0)=false:=beq_eq_false_iff_ne.2 (by omega)
  have HC:=ab (dS (aa HA).rd (bN (aa HA).rd.grown (by rw[sD (aa Xa)];decide)))
  have HEq:Hid (tS x s=match bz s with|.error e=>.error e|.ok (_,s4)=>.ok (x,s4)):=by
   show _=_
   unfold tS
   rw[if_neg (by rw[aa HL];exact hz)]
  clear hz
  go_wp2_with fail
  refine (aa HC).mono ?_
  intro e w2 hw
  rcases hw.split with ⟨y,hr,rfl,hg⟩|⟨_,s4,hr,rfl,h4,hg⟩
  ·rw[←hQ]
   refine ⟨rfl,aa W7 y w2 ?_ hg⟩
   rw[aa HEq,hr]
  ·have yS:=(aa HA).read (aa HN) h4 hg
   obtain ⟨⟨d0,d1,d2,d3⟩,_⟩:=cC yS.bx.lA
   obtain ⟨⟨y0,y1,y2,y3⟩,yf⟩:=cC (aa E6 _ _ yS.nx).1
   have f0:=yf 0
   have f1:=yf 1
   have f2:=yf 2
   have f3:=yf 3
   obtain ⟨r1,r2⟩:=mV (aa E6 _ _ yS.nx).1 (.string nm) (.slice va x.bS.length vc) (.slice ra x.res.length rc) (.slice ga x.gone.length gc)
   have cL:∀(i:Nat) (sl:Slot),(ESl x (.slice va x.bS.length vc) (.slice ra x.res.length rc) (.slice ga x.gone.length gc))[i]?=some sl→je (fun k=>W0.heap.size≤k) (gN w2 p2 (.string nm) (.slice va x.bS.length vc) (.slice ra x.res.length rc) (.slice ga x.gone.length gc)) sl.t sl.sz sl.v sl.n sl.xs:=fun i sl hi=>by
    have h1:=yS.bx.own i sl hi
    have h2:=aa P1
    refine ⟨kr (World.ownsRow.kept h1 r2 ?_) (Nat.zero_le _),fun k hk=>?_⟩
    ·right
     intro e
     have:=(h1.lt p2 e).1
     omega
    ·have:=(h1.lt k hk).1
     omega
   have HE:Hid (R (.returned (.agg #[.string nm,.slice va x.bS.length vc,.slice ra x.res.length rc,.slice ga x.gone.length gc])) (gN w2 p2 (.string nm) (.slice va x.bS.length vc) (.slice ra x.res.length rc) (.slice ga x.gone.length gc))):=by
    refine aa HR _ _ ?_
    rw[aa HEq,hr]
    refine ⟨_,rfl,⟨_,rfl,?_⟩,hJ h4 r2 (by have:=aa P1;omega),dM (jO (aa Ud) yS.sv (by have:=aa P1;omega)) r2 (by have:=aa P1;omega)⟩
    have Oi:=aa Hnm
    rw[←Oi] at cL ⊢
    exact .cons (cL 0 _ rfl) (cL 1 _ rfl) (cL 2 _ rfl) .nil
   have R1:=ab r1
   have c14:w2.cell? ⟨p1,0,none⟩=some (.pointer (some ⟨b,0,none⟩)):=by rw[cell_of_row _ _ _ _ _ _ (aa Xe _ _ yS.nx).1];rfl
   unfold gN at HE R1
   clear hw hr h4 hg yS yf r1 r2 cL HC HEq W7 c1 b0 b1 b2 b3
   go_wp2
   rw[←hQ]
   exact bodyPost_ret (results_cell_row rfl _ _ p2 71 #[.string nm,.slice va x.bS.length vc,.slice ra x.res.length rc,.slice ga x.gone.length gc] (0,0) _ rfl (aa R1) Tryz.underlying71 rfl Mt) rfl (aa HE)
end Go.Proofs.YtjophoclfccmcaaGreatDoor

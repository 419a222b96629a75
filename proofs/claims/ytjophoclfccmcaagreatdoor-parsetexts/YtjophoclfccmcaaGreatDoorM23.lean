import Derived.Test.YtjophoclfccmcaaGreatDoorPbL
set_option maxHeartbeats 4000000
set_option maxRecDepth 100000
namespace Go.Proofs.YtjophoclfccmcaaGreatDoor
open Go.RowKit
attribute [local go_sem ↓] Go.wp_at_zero Go.wp_at_succ
section
variable {P : Program} {ops : Array Oper} {Q : Exit → Act → World → Prop}
def BD (ops:Array Oper):Nat→Nat→Nat→Bool
 |0,a,i=>fL ops a i
 |f+1,a,i=>fL ops a i ||(List.range a).any fun j=>fL ops a j&&BD ops f j i
theorem Dv (D:Nat→Prop) (i':∀k j,D k→lL ops k j→D j):∀(f a i:Nat),(∀j,lL ops a j→D j)→BD ops f a i=true→D i
 |0,a,i,hD,h=>hD i (eR h)
 |f+1,a,i,hD,h=>by
  unfold BD at h
  rw[Bool.or_eq_true] at h
  rcases h with h|h
  ·exact hD i (eR h)
  ·obtain ⟨j,_,h2⟩:=List.any_eq_true.1 h
   rw[Bool.and_eq_true] at h2
   exact Dv D i' f j i (fun k hk=>i' j k (hD j (eR h2.1)) hk) h2.2
def VY (ops:Array Oper) (z:Nat):Bool:=(List.range z).all fun i=>BD ops 4 z i
theorem I6 {z:Nat} (h:VY ops z=true):∀D:Nat→Prop,(∀k j,D k→lL ops k j→D j)→(∀j,lL ops z j→D j)→∀i,i<z→D i:=fun D i' hD i hi=>Dv D i' 4 z i hD (List.all_eq_true.1 h i (List.mem_range.2 hi))
theorem pV {id z N:Nat} (RH:P.follows .mixedOrders=true) (s:Nat→Nat) (G:Array Bool→Array Value→World→Prop) (iN:Array Value) (w0:World)
  (hn:ops.size=z+1) (hN:iN.size=N) (hs:∀i,i<z→s i<N) (D9:Jk ops (z+1)=true) (hz:VY ops z=true) (h0:∀d,(∀k,d.getD k false=false)→d.size=z+1→G d iN w0.drew)
  (step:∀k d tm w,k<z→d.size=z+1→(∀k j,d.getD k false=true→lL ops k j→d.getD j false=true)→d.getD k false=false→(∀j,fL ops k j=true→j<k∧d.getD j false=true)→tm.size=N→(∀j,(∀i,i<z→s i≠j)→tm.getD j undef=iN.getD j undef)→G d tm w →
   wpOp P ops Q k (fun a' w'=>∃v,a'=⟨tm.setIfInBounds (s k) v,[]⟩∧G (d.setIfInBounds k true) (tm.setIfInBounds (s k) v) w') ⟨tm,[]⟩ w)
  (last:∀d tm w,(∀j,j<z→d.getD j false=true)→tm.size=N→(∀j,(∀i,i<z→s i≠j)→tm.getD j undef=iN.getD j undef)→G d tm w→wpOp P ops Q z (fun a' w'=>Q .normal a' w') ⟨tm,[]⟩ w) :
  (Code.region id ops true).wp P Q ⟨iN,[]⟩ w0:=by
 have hb:=Jj hn D9
 refine wp_region_any RH (sd (md:=.any) (fun d a w=>d.size=z+1∧(∀k j,d.getD k false=true→lL ops k j→d.getD j false=true)∧((d.getD z false=false∧∃tm,a=⟨tm,[]⟩∧tm.size=N∧(∀j,(∀i,i<z→s i≠j)→tm.getD j undef=iN.getD j undef)∧G d tm w)∨(d.getD z false=true∧Q .normal a w))) ?_ ?_ _ _ _ _ ?_ ?_)
 ·rintro d a w i ⟨hd,i',Od⟩ hr
  obtain ⟨hi,ud⟩:=qT hr
  obtain ⟨_,o,ho,iT⟩:=mem_ready.1 hr
  have jN:d.getD i false=false:=by simp[hi,ud]
  have hw:∀k,lL ops i k→d.getD k false=true:=by
   rintro k ⟨o',B1,e,he,hb,rfl⟩
   rw[ho] at B1
   obtain rfl:=zC B1
   exact iT e he hb
  have D7:∀k j,(d.setIfInBounds i true).getD k false=true→lL ops k j→(d.setIfInBounds i true).getD j false=true:=by
   intro k j hk hj
   by_cases e:j=i
   ·subst e
    exact cq hi
   ·rw[aI (Ne.symm e)]
    by_cases e2:k=i
    ·subst e2
     exact hw j hj
    ·rw[aI (Ne.symm e2)] at hk
     exact i' k j hk hj
  have iQ:(d.setIfInBounds i true).size=z+1:=by rw[Array.size_setIfInBounds];exact hd
  rcases Od with ⟨Gf,tm,rfl,h1,h2,h3⟩|⟨Gf,hq⟩
  rotate_left
  ·exfalso
   have RL:i<z:=by
    rcases Nat.lt_or_ge i z with q|q
    ·exact q
    ·obtain rfl:i=z:=by omega
     rw[Gf] at jN;cases jN
   have:=I6 hz (fun k=>d.getD k false=true) i' (fun j hj=>i' _ _ Gf hj) i RL
   rw[this] at jN;cases jN
  by_cases RL:i=z
  ·subst RL
   have kj:=I6 hz (fun k=>d.getD k false=true) i' hw
   refine wpOp_mono ?_ (last d tm w kj h1 h2 h3)
   intro a' w' hq
   exact ⟨iQ,D7,.inr ⟨cq hi,hq⟩⟩
  ·have B2:i<z:=by omega
   refine wpOp_mono ?_ (step i d tm w B2 hd i' jN (fun j hj=>⟨?_,hw j (eR hj)⟩) h1 h2 h3)
   ·rintro a' w' ⟨v,rfl,hg⟩
    refine ⟨iQ,D7,.inl ⟨by rw[aI RL];exact Gf,_,rfl,by rw[Array.size_setIfInBounds];exact h1,fun j hj=>by rw[aI (hj i B2)];exact h2 j hj,hg⟩⟩
   ·obtain ⟨o',B1,e,he,_,rfl⟩:=eR hj
    exact hb i o' B1 e he
 ·rintro d a w ⟨hd,i',⟨Gf,_⟩|⟨_,hq⟩⟩ hr
  ·exfalso
   have iT:∀m i,i<m→i<z+1→d.getD i false=true:=by
    intro m
    induction m with
    |zero=>intro i hi;omega
    |succ m ih =>
     intro i hi Xj
     obtain ⟨o,ho⟩:∃o,ops[i]?=some o:=⟨_,Array.getElem?_eq_getElem (by omega)⟩
     exact I9 (by omega) hr ho fun e he _=>ih e.on (by have:=hb i o ho e he;omega) (by have:=hb i o ho e he;omega)
   rw[iT (z+1) z (by omega) (by omega)] at Gf;cases Gf
  ·exact hq
 ·have DY:∀k,(Array.replicate ops.size false).getD k false=false:=fun k=>by
   simp[Array.getD_eq_getD_getElem?,Array.getElem?_replicate]
   split<;>simp
  exact ⟨by simp[hn],fun k j hk _=>(by rw[DY k] at hk;cases hk),.inl ⟨DY z,iN,rfl,hN,fun _ _=>rfl,h0 _ DY (by simp[hn])⟩⟩
 ·simp
theorem iP {id z N:Nat} (c:Nat) (RH:P.follows .mixedOrders=true) (s:Nat→Nat) (val:Nat→Value) (Φ0:World→Prop) (Φ1:Value→World→Prop) (iN:Array Value) (w0:World)
  (hn:ops.size=z+1) (hN:iN.size=N) (N9:∀i j,i<z→j<z→s i=s j→i=j) (hs:∀i,i<z→s i<N) (D9:Jk ops (z+1)=true) (hz:VY ops z=true) (h0:Φ0 w0.drew)
  (quiet:∀k tm w,k<z→k≠c→tm.size=N→(∀j,(∀i,i<z→s i≠j)→tm.getD j undef=iN.getD j undef)→(∀j,j≠c→fL ops k j=true→tm.getD (s j) undef=val j)→(Φ0 w∨∃x,Φ1 x w)→wpOp P ops Q k (fun a' w'=>a'=⟨tm.setIfInBounds (s k) (val k),[]⟩∧w'=w) ⟨tm,[]⟩ w)
  (call:c<z→∀tm w,tm.size=N→(∀j,(∀i,i<z→s i≠j)→tm.getD j undef=iN.getD j undef)→(∀j,j≠c→fL ops c j=true→tm.getD (s j) undef=val j)→Φ0 w→wpOp P ops Q c (fun a' w'=>∃x,a'=⟨tm.setIfInBounds (s c) x,[]⟩∧Φ1 x w') ⟨tm,[]⟩ w)
  (last:∀tm w,tm.size=N→(∀j,(∀i,i<z→s i≠j)→tm.getD j undef=iN.getD j undef)→(∀j,j<z→j≠c→tm.getD (s j) undef=val j)→((c<z∧Φ1 (tm.getD (s c) undef) w)∨(z≤c∧Φ0 w))→wpOp P ops Q z (fun a' w'=>Q .normal a' w') ⟨tm,[]⟩ w) :
  (Code.region id ops true).wp P Q ⟨iN,[]⟩ w0:=by
 refine pV RH s (fun d tm w=>(∀j,j<z→j≠c→d.getD j false=true→tm.getD (s j) undef=val j)∧(((d.getD c false=false∨z≤c)∧Φ0 w)∨(c<z∧d.getD c false=true∧Φ1 (tm.getD (s c) undef) w))) iN w0 hn hN hs D9 hz ?_ ?_ ?_
 ·intro d hd _
  exact ⟨fun j _ _ h=>(by rw[hd j] at h;cases h),.inl ⟨.inl (hd c),h0⟩⟩
 ·intro k d tm w hk hd i' ud hw cl cB hG
  obtain ⟨lQ,Ah⟩:=hG
  have a8:∀j,j≠c→fL ops k j=true→tm.getD (s j) undef=val j:=fun j KD hj=>lQ j (by have:=(hw j hj).1;omega) KD (hw j hj).2
  by_cases Vo:k=c
  ·subst Vo
   rcases Ah with ⟨_,h1⟩|⟨_,h1,_⟩
   ·refine wpOp_mono ?_ (call hk tm w cl cB a8 h1)
    rintro a' w' ⟨x,rfl,hx⟩
    refine ⟨x,rfl,fun j hj KD rq=>?_,.inr ⟨hk,cq (by omega),by rw[cq (by rw[cl];exact hs k hk)];exact hx⟩⟩
    rw[aI (Ne.symm KD)] at rq
    rw[aI (fun q=>KD (N9 k j hk hj q).symm)]
    exact lQ j hj KD rq
   ·rw[h1] at ud;cases ud
  ·refine wpOp_mono ?_ (quiet k tm w hk Vo cl cB a8 (by rcases Ah with ⟨_,h1⟩|⟨_,_,h1⟩;exact .inl h1;exact .inr ⟨_,h1⟩))
   rintro a' w' ⟨rfl,rfl⟩
   refine ⟨_,rfl,fun j hj KD rq=>?_,?_⟩
   ·by_cases e:j=k
    ·subst e
     exact cq (by rw[cl];exact hs j hj)
    ·rw[aI (Ne.symm e)] at rq
     rw[aI (fun q=>e (N9 k j hk hj q).symm)]
     exact lQ j hj KD rq
   ·rw[aI Vo]
    rcases Ah with h1|⟨h1,h2,h3⟩
    ·exact .inl h1
    ·exact .inr ⟨h1,h2,by rw[aI (fun q=>Vo (N9 k c hk h1 q))];exact h3⟩
 ·intro d tm w hd cl cB hG
  refine last tm w cl cB (fun j hj KD=>hG.1 j hj KD (hd j hj)) ?_
  rcases hG.2 with ⟨h1,h2⟩|⟨h1,_,h3⟩
  ·rcases Nat.lt_or_ge c z with q|q
   ·rcases h1 with h1|h1
    ·rw[hd c q] at h1;cases h1
    ·omega
   ·exact .inr ⟨q,h2⟩
  ·exact .inl ⟨h1,h3⟩
theorem nV {i:Nat}{o:Oper}{a:Act}{w:World}{K:Act→World→Prop} (ho:ops[i]?=some o) (hg:o.guard=none) (fn:Fn) (fs cs:Array Operand) (jX:o.op=.makeFunc fn fs cs) (vf vc:Array Value) (hf:fs.map a.eval=vf) (hc:cs.map a.eval=vc) (hK:K (a.put o.dst (.func fn vf vc)) w):wpOp P ops Q i K a w:=by
 refine nU ho hg (v:=.func fn vf vc) (w':=w) ?_ hK
 simp only[execOp,jX,hf,hc]
 exact Io rfl
theorem DH {i:Nat}{o:Oper}{a:Act}{w w':World}{K:Act→World→Prop}{v:Value} (ho:ops[i]?=some o) (hg:o.guard=none) (t:TypeId) (parts:Array (Nat×Operand)) (jX:o.op=.build t parts) (vs:Array (Nat×Value)) (hv:(parts.map fun p=>(p.1,a.eval p.2))=vs) (hr:(Instr.build t vs).run P w=.ok v w') (hK:K (a.put o.dst v) w'):wpOp P ops Q i K a w:=by
 refine nU ho hg (v:=v) (w':=w') ?_ hK
 simp only[execOp,jX,hv]
 exact Io hr
end
end Go.Proofs.YtjophoclfccmcaaGreatDoor
namespace Go.Proofs.YtjophoclfccmcaaGreatDoor
open Go.RowKit
attribute [local go_sem ↓] Go.wp_at_zero Go.wp_at_succ
theorem rM (w:World) (vs:Array Value):(callFunc 149 vs).run Tryz.prog w=.ok (.enter 149 vs) w:=by
 have hn:¬Tryz.f149.name = "runtime.NumGoroutine" := by decide +kernel
 have hb:Tryz.f149.body.isSome=true:=by kernel_rfl
 obtain ⟨c,hc⟩:=zG hb
 simp[callFunc,Tryz.func149,hn,hc]
theorem zk (w:World) (vs:Array Value):(callFunc 124 vs).run Tryz.prog w=.ok (.enter 124 vs) w:=by
 have hn:¬Tryz.f124.name = "runtime.NumGoroutine" := by decide +kernel
 have hb:Tryz.f124.body.isSome=true:=by kernel_rfl
 obtain ⟨c,hc⟩:=zG hb
 simp[callFunc,Tryz.func124,hn,hc]
theorem GJ (w:World) (vs:Array Value):(callFunc 128 vs).run Tryz.prog w=.ok (.enter 128 vs) w:=by
 have hn:¬Tryz.f128.name = "runtime.NumGoroutine" := by decide +kernel
 have hb:Tryz.f128.body.isSome=true:=by kernel_rfl
 obtain ⟨c,hc⟩:=zG hb
 simp[callFunc,Tryz.func128,hn,hc]
theorem Ez (w:World) (vs:Array Value):(callFunc 125 vs).run Tryz.prog w=.ok (.enter 125 vs) w:=by
 have hn:¬Tryz.f125.name = "runtime.NumGoroutine" := by decide +kernel
 have hb:Tryz.f125.body.isSome=true:=by kernel_rfl
 obtain ⟨c,hc⟩:=zG hb
 simp[callFunc,Tryz.func125,hn,hc]
theorem EB (w:World) (vs:Array Value):(callFunc 169 vs).run Tryz.prog w=.ok (.enter 169 vs) w:=by
 have hn:¬Tryz.f169.name = "runtime.NumGoroutine" := by decide +kernel
 have hb:Tryz.f169.body.isSome=true:=by kernel_rfl
 obtain ⟨c,hc⟩:=zG hb
 simp[callFunc,Tryz.func169,hn,hc]
theorem Pr (w:World):(Instr.build 175 #[(0,.int .i64 (-2147483648)),(1,.int .i64 2147483647),(2,.bool true)]).run Tryz.prog w=.ok (.agg #[.int .i64 (-2147483648),.int .i64 2147483647,.bool true]) w:=by
 go_simp
theorem LW {lo b g pm pr:Nat}{nm:ByteArray}{ss:List Slot}{N:(Nat→Prop)→World→Prop}{V W w0:World}{s:ax}{rs:List (Int×Int)}{gs:List ByteArray}{vr vg:Value} (h:Ap lo b g 71 nm ss N V W s w0) (hN:aP N) (hR:ss[1]?=some ⟨98,2,vr,rs.length,qC rs⟩) (hG:ss[2]?=some ⟨9,1,vg,gs.length,dV gs⟩) (hp:0<s.ts.length) (hs:Sm s) (Xg:rs.length+s.ts.length≤20000) (Xh:gs.length+s.ts.length≤20000)
  (p':∀P w,N P w→aX pr #[.pointer (some ⟨b,0,none⟩)] 74 P w) (fB:∀P w,N P w→aX pm #[.pointer (some ⟨g,0,none⟩)] 161 P w):Calls Tryz.prog 156 #[.pointer (some ⟨pr,0,none⟩),.pointer (some ⟨pm,0,none⟩)] w0 (CB lo b g 71 nm ss N V W 1 2 (j5 (-2147483648) 2147483647 true rs gs s)):=by
 have hd:=h.up hN (zE w0.heap.size w0).drew
 have cR:w0.drew.cell? ⟨pr,0,none⟩=some (.pointer (some ⟨b,0,none⟩)):=by rw[cell_of_row _ _ _ _ _ _ (p' _ _ hd.nx).1];rfl
 have cM:w0.drew.cell? ⟨pm,0,none⟩=some (.pointer (some ⟨g,0,none⟩)):=by rw[cell_of_row _ _ _ _ _ _ (fB _ _ hd.nx).1];rfl
 go_enter Tryz.func156,Tryz.ntmps156
 refine iP (z:=8) (N:=11) 8 (by kernel_rfl) (fun k=>k+2) (fun k=>[.pointer (some ⟨b,0,none⟩),.agg #[.int .i64 (-2147483648),.int .i64 2147483647,.bool true],.pointer (some ⟨g,0,none⟩),.pointer (some ⟨g,0,none⟩),.pointer (some ⟨g,2,none⟩),.pointer (some ⟨g,0,none⟩),.pointer (some ⟨g,0,none⟩),.pointer (some ⟨g,3,none⟩)].getD k undef) (fun w=>w=w0.drew) (fun _ _=>False) _ w0 rfl rfl (fun i j _ _ e=>by omega) (fun i hi=>by omega) (by kernel_rfl) (by kernel_rfl) rfl ?_ (fun hc=>by omega) ?_
 ·intro k tm w hk _ cl cB a8 hw
  rcases hw with rfl|⟨_,hf⟩
  rotate_left
  ·exact hf.elim
  match k,hk with
  |0,_=>exact aY rfl rfl _ (.tmp 0) rfl (cB 0 (by intro i hi;omega)) (dh _ cR) ⟨rfl,rfl⟩
  |1,_=>exact DH rfl rfl _ _ rfl (#[(0,.int .i64 (-2147483648)),(1,.int .i64 2147483647),(2,.bool true)]) (by simp only[List.map_toArray,List.map_cons,List.map_nil,Act.eval]) (Pr _) ⟨rfl,rfl⟩
  |2,_=>exact aY rfl rfl _ (.tmp 1) rfl (cB 1 (by intro i hi;omega)) (yG _ cM) ⟨rfl,rfl⟩
  |3,_=>exact bc rfl rfl (.tmp 4) rfl (a8 2 (by omega) (by kernel_rfl)) ⟨rfl,rfl⟩
  |4,_=>exact bW rfl rfl _ (.tmp 5) _ rfl (a8 3 (by omega) (by kernel_rfl)) (KX _) ⟨rfl,rfl⟩
  |5,_=>exact aY rfl rfl _ (.tmp 1) rfl (cB 1 (by intro i hi;omega)) (yG _ cM) ⟨rfl,rfl⟩
  |6,_=>exact bc rfl rfl (.tmp 7) rfl (a8 5 (by omega) (by kernel_rfl)) ⟨rfl,rfl⟩
  |7,_=>exact bW rfl rfl _ (.tmp 8) _ rfl (a8 6 (by omega) (by kernel_rfl)) (KW _) ⟨rfl,rfl⟩
 ·intro tm w cl cB dC hw
  rcases hw with ⟨hc,_⟩|⟨_,rfl⟩
  ·omega
  refine cE rfl rfl 149 (rM _) _ _ rfl #[.pointer (some ⟨b,0,none⟩),.agg #[.int .i64 (-2147483648),.int .i64 2147483647,.bool true],.pointer (some ⟨g,2,none⟩),.pointer (some ⟨g,3,none⟩)] ?_ (qS hd hN (by decide) hR hG hp hs Xg Xh) ?_
  ·simp only[List.map_toArray,List.map_cons,List.map_nil,Act.eval]
   rw[show tm.getD 2 undef=_ from dC 0 (by omega) (by omega),show tm.getD 3 undef=_ from dC 1 (by omega) (by omega),show tm.getD 6 undef=_ from dC 4 (by omega) (by omega),show tm.getD 9 undef=_ from dC 7 (by omega) (by omega)]
   rfl
  ·intro e w' hr
   have NY:=hr
   unfold CB at hr
   cases hq:j5 (-2147483648) 2147483647 true rs gs s with
   |error y =>
    rw[hq] at hr NY
    obtain ⟨rfl,hs⟩:=hr
    exact .inr ⟨_,rfl,rfl,NY⟩
   |ok y =>
    rw[hq] at hr NY
    obtain ⟨rfl,hs⟩:=hr
    refine .inl ⟨_,rfl,?_⟩
    go_end0
    exact NY
theorem Ps (w:World):(Instr.build 175 #[(0,.int .i64 1),(1,.int .i64 536870911)]).run Tryz.prog w=.ok (.agg #[.int .i64 1,.int .i64 536870911,.bool false]) w:=by
 go_simp
theorem Nn {lo b g pm pr:Nat}{nm:ByteArray}{ss:List Slot}{N:(Nat→Prop)→World→Prop}{V W w0:World}{s:ax}{rs:List (Int×Int)}{gs:List ByteArray}{vr vg:Value} (h:Ap lo b g 49 nm ss N V W s w0) (hN:aP N) (hR:ss[4]?=some ⟨98,2,vr,rs.length,qC rs⟩) (hG:ss[5]?=some ⟨9,1,vg,gs.length,dV gs⟩) (hp:0<s.ts.length) (hs:Sm s) (Xg:rs.length+s.ts.length≤20000) (Xh:gs.length+s.ts.length≤20000)
  (p':∀P w,N P w→aX pr #[.pointer (some ⟨b,0,none⟩)] 74 P w) (fB:∀P w,N P w→aX pm #[.pointer (some ⟨g,0,none⟩)] 158 P w):Calls Tryz.prog 148 #[.pointer (some ⟨pr,0,none⟩),.pointer (some ⟨pm,0,none⟩)] w0 (CB lo b g 49 nm ss N V W 4 5 (j5 1 536870911 false rs gs s)):=by
 have hd:=h.up hN (zE w0.heap.size w0).drew
 have cR:w0.drew.cell? ⟨pr,0,none⟩=some (.pointer (some ⟨b,0,none⟩)):=by rw[cell_of_row _ _ _ _ _ _ (p' _ _ hd.nx).1];rfl
 have cM:w0.drew.cell? ⟨pm,0,none⟩=some (.pointer (some ⟨g,0,none⟩)):=by rw[cell_of_row _ _ _ _ _ _ (fB _ _ hd.nx).1];rfl
 go_enter Tryz.func148,Tryz.ntmps148
 refine iP (z:=8) (N:=11) 8 (by kernel_rfl) (fun k=>k+2) (fun k=>[.pointer (some ⟨b,0,none⟩),.agg #[.int .i64 1,.int .i64 536870911,.bool false],.pointer (some ⟨g,0,none⟩),.pointer (some ⟨g,0,none⟩),.pointer (some ⟨g,5,none⟩),.pointer (some ⟨g,0,none⟩),.pointer (some ⟨g,0,none⟩),.pointer (some ⟨g,6,none⟩)].getD k undef) (fun w=>w=w0.drew) (fun _ _=>False) _ w0 rfl rfl (fun i j _ _ e=>by omega) (fun i hi=>by omega) (by kernel_rfl) (by kernel_rfl) rfl ?_ (fun hc=>by omega) ?_
 ·intro k tm w hk _ cl cB a8 hw
  rcases hw with rfl|⟨_,hf⟩
  rotate_left
  ·exact hf.elim
  match k,hk with
  |0,_=>exact aY rfl rfl _ (.tmp 0) rfl (cB 0 (by intro i hi;omega)) (dh _ cR) ⟨rfl,rfl⟩
  |1,_=>exact DH rfl rfl _ _ rfl (#[(0,.int .i64 1),(1,.int .i64 536870911)]) (by simp only[List.map_toArray,List.map_cons,List.map_nil,Act.eval]) (Ps _) ⟨rfl,rfl⟩
  |2,_=>exact aY rfl rfl _ (.tmp 1) rfl (cB 1 (by intro i hi;omega)) (cT _ cM) ⟨rfl,rfl⟩
  |3,_=>exact bc rfl rfl (.tmp 4) rfl (a8 2 (by omega) (by kernel_rfl)) ⟨rfl,rfl⟩
  |4,_=>exact bW rfl rfl _ (.tmp 5) _ rfl (a8 3 (by omega) (by kernel_rfl)) (Sk _) ⟨rfl,rfl⟩
  |5,_=>exact aY rfl rfl _ (.tmp 1) rfl (cB 1 (by intro i hi;omega)) (cT _ cM) ⟨rfl,rfl⟩
  |6,_=>exact bc rfl rfl (.tmp 7) rfl (a8 5 (by omega) (by kernel_rfl)) ⟨rfl,rfl⟩
  |7,_=>exact bW rfl rfl _ (.tmp 8) _ rfl (a8 6 (by omega) (by kernel_rfl)) (Sj _) ⟨rfl,rfl⟩
 ·intro tm w cl cB dC hw
  rcases hw with ⟨hc,_⟩|⟨_,rfl⟩
  ·omega
  refine cE rfl rfl 149 (rM _) _ _ rfl #[.pointer (some ⟨b,0,none⟩),.agg #[.int .i64 1,.int .i64 536870911,.bool false],.pointer (some ⟨g,5,none⟩),.pointer (some ⟨g,6,none⟩)] ?_ (qS hd hN (by decide) hR hG hp hs Xg Xh) ?_
  ·simp only[List.map_toArray,List.map_cons,List.map_nil,Act.eval]
   rw[show tm.getD 2 undef=_ from dC 0 (by omega) (by omega),show tm.getD 3 undef=_ from dC 1 (by omega) (by omega),show tm.getD 6 undef=_ from dC 4 (by omega) (by omega),show tm.getD 9 undef=_ from dC 7 (by omega) (by omega)]
   rfl
  ·intro e w' hr
   have NY:=hr
   unfold CB at hr
   cases hq:j5 1 536870911 false rs gs s with
   |error y =>
    rw[hq] at hr NY
    obtain ⟨rfl,hs⟩:=hr
    exact .inr ⟨_,rfl,rfl,NY⟩
   |ok y =>
    rw[hq] at hr NY
    obtain ⟨rfl,hs⟩:=hr
    refine .inl ⟨_,rfl,?_⟩
    go_end0
    exact NY
theorem tJ {lo hi:Int}{mi:Bool}{s s1:ax}{n:Int} (h:eh lo hi mi s=.ok (n,s1)):Gt s s1:=by
 unfold eh at h
 split at h
 ·cases h
 ·rename_i u s2 h2
  split at h
  ·cases h
  ·rename_i m s3 h3
   split at h
   ·cases h
   ·split at h
    ·cases h
    ·rename_i u4 s4 h4
     simp only[Except.ok.injEq,Prod.mk.injEq] at h
     obtain ⟨_,rfl⟩:=h
     exact ((bB h2).gt (sP h3)).eI (bB h4)
theorem kS {s s1:ax}{x:ByteArray} (h:aQ s=.ok (x,s1)) (he:s.en.kind=5):0<s.ts.length:=bP he (by rw[(jy h).2.2];decide)
theorem yX {s s1:ax}{v:ByteArray×Int} (h:de s=.ok (v,s1)):Gt s s1∧(s.en.kind=5→0<s.ts.length):=by
 unfold de at h
 split at h
 ·cases h
 ·rename_i x s2 h2
  split at h
  ·cases h
  ·rename_i n s3 h3
   simp only[Except.ok.injEq,Prod.mk.injEq] at h
   obtain ⟨_,rfl⟩:=h
   exact ⟨(gz (s:=s.begun) h2).eI (tJ h3).gu,fun he=>kS (s:=s.begun) h2 he⟩
theorem yY {bl bh:Int}{bm:Bool}{rs:List (Int×Int)}{gs:List ByteArray}{s s':ax}{l:List (Int×Int)×List ByteArray} (h:j5 bl bh bm rs gs s=.ok (l,s')):Gt s s':=by
 unfold j5 at h
 split at h
 ·cases h
 ·rename_i u s1 h1
  split at h
  ·split at h
   ·cases h
   ·rename_i l2 s2 h2
    simp only[Except.ok.injEq,Prod.mk.injEq] at h
    obtain ⟨_,rfl⟩:=h
    exact (ed h1).eI (qM (fun s a s1 h=>(oQ h).gu) h2)
  ·split at h
   ·cases h
   ·rename_i l2 s2 h2
    simp only[Except.ok.injEq,Prod.mk.injEq] at h
    obtain ⟨_,rfl⟩:=h
    exact (ed h1).eI (qM (fun s a s1 h=>(sO h).gu) h2)
theorem gZ {σ:Type}{F:ByteArray→Option (kF σ)}{O:kF σ} (hF:∀k f,F k=some f→∀x s x' s',f x s=.ok (x',s')→Gt s s') (hO:∀x s x' s',O x s=.ok (x',s')→Gt s s'∧(s.en.kind=5→0<s.ts.length)) {x x':σ}{s s':ax} (h:bV F O x s=.ok (x',s')):Gt s s'∧(s.en.kind=5→0<s.ts.length):=by
 unfold bV at h
 split at h
 ·cases h
 ·rename_i s1 h1
  simp only[Except.ok.injEq,Prod.mk.injEq] at h
  obtain ⟨_,rfl⟩:=h
  rcases mP h1 with ⟨e,_⟩|⟨_,h2,h3⟩
  ·cases e
  ·exact ⟨.tail h2 (Ib h1),fun he=>bP he (by rw[h3];decide)⟩
 ·split at h
  ·rename_i f hf
   split at h
   ·rename_i hk
    exact ⟨hF _ _ hf _ _ _ _ h,fun he=>bP he (by rw[hk];decide)⟩
   ·exact hO _ _ _ _ h
  ·exact hO _ _ _ _ h
theorem wZ {σ:Type}{F:ByteArray→Option (kF σ)}{O:kF σ} (hF:∀k f,F k=some f→∀x s x' s',f x s=.ok (x',s')→Gt s s') (hO:∀x s x' s',O x s=.ok (x',s')→Gt s s'∧(s.en.kind=5→0<s.ts.length)) {x x':σ}{s s':ax} (he:s.en.kind=5) (h:bV F O x s=.ok (x',s')):s'.ts.length<s.ts.length:=by
 obtain ⟨h1,h2⟩:=gZ hF hO h
 exact h1.lt (h2 he)
theorem AK {σ:Type}{st:kF σ} (sJ:∀x s x' s',st x s=.ok (x',s')→jj s s'):∀(n:Nat) (x:σ) (s:ax) (x':σ) (s':ax),jv st n x s=.ok (x',s')→jj s s'∧aH s'.here 4 ⟨#[125]⟩=true
 |0,_,_,_,_,h=>by cases h
 |n+1,x,s,x',s',h=>by
  unfold jv at h
  split at h
  ·rename_i hp
   simp only[Except.ok.injEq,Prod.mk.injEq] at h
   obtain ⟨_,rfl⟩:=h
   exact ⟨.refl _,hp⟩
  ·split at h
   ·cases h
   ·rename_i x1 s1 h1
    obtain ⟨h2,h3⟩:=AK sJ n _ _ _ _ h
    exact ⟨(sJ _ _ _ _ h1).trans h2,h3⟩
theorem mh {σ:Type}{st:kF σ} (sJ:∀x s x' s',st x s=.ok (x',s')→jj s s') {x x':σ}{s s':ax} (h:ji st x s=.ok (x',s')):jj s s'∧aH s'.here 4 ⟨#[125]⟩=true:=by
 unfold ji at h
 split at h
 ·cases h
 ·rename_i u s1 h1
  obtain ⟨h2,h3⟩:=AK sJ _ _ _ _ _ h
  exact ⟨(bB h1).trans h2,h3⟩
theorem sx {t:Tk}{k:Int}{x:ByteArray} (h:aH t k x=true):t.kind=k:=by
 unfold aH at h
 rw[Bool.and_eq_true] at h
 exact eq_of_beq h.1
def dw {σ:Type}:kF σ:=fun _ s=>.error (52,s.here.spot)
noncomputable def Gy:kF En:=fun x s=>match de s with
 |.error e=>.error e
 |.ok (v,s')=>.ok ({ x with bT:=x.bT++[v] },s')
noncomputable def enR:kF En:=fun x s=>match j5 (-2147483648) 2147483647 true x.res x.gone s with
 |.error e=>.error e
 |.ok (l,s')=>.ok ({ x with res:=l.1,gone:=l.2 },s')
noncomputable def I7:ByteArray→Option (kF En):=fun k=>if (k==⟨#[114,101,115,101,114,118,101,100]⟩)=true then some enR else if (k==⟨#[111,112,116,105,111,110]⟩)=true then some dw else none
theorem Ch (x:En) (s:ax) (x':En) (s':ax) (h:Gy x s=.ok (x',s')):Gt s s'∧(s.en.kind=5→0<s.ts.length):=by
 unfold Gy at h
 split at h
 ·cases h
 ·rename_i v s1 h1
  simp only[Except.ok.injEq,Prod.mk.injEq] at h
  obtain ⟨_,rfl⟩:=h
  exact yX h1
theorem Cg (k:ByteArray) (f:kF En) (hf:I7 k=some f) (x:En) (s:ax) (x':En) (s':ax) (h:f x s=.ok (x',s')):Gt s s':=by
 unfold I7 at hf
 split at hf
 ·obtain rfl:=zC hf
  unfold enR at h
  split at h
  ·cases h
  ·rename_i l s1 h1
   simp only[Except.ok.injEq,Prod.mk.injEq] at h
   obtain ⟨_,rfl⟩:=h
   exact yY h1
 ·split at hf
  ·obtain rfl:=zC hf
   cases h
  ·cases hf
noncomputable def dd (s:ax):Except (Int×Int) (En×ax):=match bC s.begun with
 |.error e=>.error e
 |.ok (_,s1)=>match aQ s1 with
  |.error e=>.error e
  |.ok (nm,s2)=>match ji (bV I7 Gy) ⟨nm,[],[],[]⟩ s2 with
   |.error e=>.error e
   |.ok (x,s3)=>if x.bT.length=0 then .error (bS s3) else match bC s3 with
    |.error e=>.error e
    |.ok (_,s4)=>.ok (x,s4)
theorem ru {s s':ax}{x:En} (h:dd s=.ok (x,s')):Gt s s':=by
 unfold dd at h
 split at h
 ·cases h
 ·rename_i u s1 h1
  split at h
  ·cases h
  ·rename_i nm s2 h2
   split at h
   ·cases h
   ·rename_i x3 s3 h3
    split at h
    ·cases h
    ·split at h
     ·cases h
     ·rename_i u4 s4 h4
      simp only[Except.ok.injEq,Prod.mk.injEq] at h
      obtain ⟨_,rfl⟩:=h
      exact (((ed (s:=s.begun) h1).eI (gz h2).gu).eI (mh (fun x s x' s' h=>(gZ Cg Ch h).1.gu) h3).1).eI (ed h4).gu
def ESl (x:En) (vv vr vg:Value):List Slot:=[⟨73,2,vv,x.bT.length,KY x.bT⟩,⟨98,2,vr,x.res.length,qC x.res⟩,⟨9,1,vg,x.gone.length,dV x.gone⟩]
def Ql (lo b g:Nat) (nm:ByteArray) (N:(Nat→Prop)→World→Prop) (V W:World) (x:En) (s:ax) (w:World):Prop:=x.name=nm∧(∃vv vr vg,Ap lo b g 71 nm (ESl x vv vr vg) N V W s w)∧(x.bT.length+s.ts.length≤20000∧x.res.length+s.ts.length≤20000∧x.gone.length+s.ts.length≤20000)∧Sm s∧s.ts.length≤16384
theorem Ql.step {lo b g:Nat}{nm:ByteArray}{N:(Nat→Prop)→World→Prop}{V W w w':World}{x:En}{s s':ax} (h:Ql lo b g nm N V W x s w) (hN:aP N) (hr:Rd lo w' b s') (hg:w.grownBy w' (some b)) (hs:jj s s'):Ql lo b g nm N V W x s' w':=by
 obtain ⟨h0,⟨vv,vr,vg,bd⟩,hl,fP,hn⟩:=h
 have:=hs.len
 exact ⟨h0,⟨vv,vr,vg,bd.read hN hr hg⟩,⟨by omega,by omega,by omega⟩,hs.sm fP,by omega⟩
theorem dI {σ:Type}{I:σ→ax→World→Prop}{Er:World→Prop}{lo b:Nat}{x:σ}{s:ax}{w:World} (hr:Rd lo w b s) (he:∀w',w.grownBy w' (some b)→Er w'):nr (.func (.func 106) #[.pointer (some ⟨b,0,none⟩)] #[]) #[] w (IP I Er (dw x s)):=by
 refine ⟨_,_,_,rfl,GO w,?_⟩
 refine (kR hr).mono ?_
 rintro e w' ⟨rfl,hb⟩
 exact ⟨rfl,he w' (aD b hb)⟩
theorem VZ {lo b g p1 pv:Nat}{nm:ByteArray}{N:(Nat→Prop)→World→Prop}{V W:World} (hN:aP N) (p':∀P w,N P w→aX p1 #[.pointer (some ⟨b,0,none⟩)] 74 P w) (fB:∀P w,N P w→aX pv #[.pointer (some ⟨b,0,none⟩)] 74 P w) (pc:∀P w,N P w→aX (pv+1) #[.pointer (some ⟨g,0,none⟩)] 161 P w) (hm:∀P w,N P w→iH (pv+2) (lB pv b) P w) :
  EL (Ql lo b g nm N V W) (Sv g b W) lo b (pv+2) (lB pv b) (.func (.func 129) #[] #[.pointer (some ⟨g,0,none⟩),.pointer (some ⟨p1,0,none⟩)]) I7 Gy:=by
 have her:∀x s w w',Ql lo b g nm N V W x s w→w.grownBy w' (some b)→Sv g b W w':=by
  rintro x s w w' ⟨_,⟨vv,vr,vg,bd⟩,_⟩ hg
  exact bd.sv.trans (Sv.of hg (by have:=bd.bx.lt;omega))
 refine ⟨fun x s w h=>?_,fun x s w s' w' h hr hg hs=>h.step hN hr hg hs,her,fun x s w h=>?_,fun k=>?_,fun k v f hv hf x s w h hk ht=>?_,fun x s w h=>?_⟩
 ·obtain ⟨_,⟨vv,vr,vg,bd⟩,_⟩:=h
  exact bd.rd
 ·obtain ⟨_,⟨vv,vr,vg,bd⟩,_⟩:=h
  exact ⟨_,hm _ _ bd.nx⟩
 ·unfold lB I7
  simp only[jT]
  by_cases q1:(k==⟨#[114,101,115,101,114,118,101,100]⟩)=true
  ·exact .inr ⟨_,_,_,_,by rw[if_pos q1],by rw[if_pos q1]⟩
  ·rw[if_neg q1,if_neg q1]
   by_cases q2:(k==⟨#[111,112,116,105,111,110]⟩)=true
   ·exact .inr ⟨_,_,_,_,by rw[if_pos q2],by rw[if_pos q2]⟩
   ·exact .inl ⟨by rw[if_neg q2],by rw[if_neg q2]⟩
 ·unfold lB at hv
  unfold I7 at hf
  simp only[jT] at hv
  have h0:=h
  obtain ⟨jo,⟨vv,vr,vg,bd⟩,⟨l1,l2,l3⟩,fP,hn⟩:=h
  by_cases q1:(k==⟨#[114,101,115,101,114,118,101,100]⟩)=true
  ·rw[if_pos q1] at hv hf
   obtain rfl:=zC hv
   obtain rfl:=zC hf
   refine ⟨_,_,_,rfl,Cs w,?_⟩
   refine (LW (pm:=pv+1) (pr:=pv) (rs:=x.res) (gs:=x.gone) (vr:=vr) (vg:=vg) bd hN rfl rfl (bP bd.rd.grown (by rw[hk];decide)) fP l2 l3 fB pc).mono ?_
   intro e w' hr
   unfold CB at hr
   unfold enR
   cases hq:j5 (-2147483648) 2147483647 true x.res x.gone s with
   |error y =>
    rw[hq] at hr
    exact hr
   |ok y =>
    rw[hq] at hr
    obtain ⟨he,⟨v1,v2,ij⟩,k1,k2,k3⟩:=hr
    have dr:=(yY hq).gu.len
    exact ⟨he,jo,⟨vv,v1,v2,ij⟩,⟨by simp only;omega,k1,k2⟩,k3,by omega⟩
  ·rw[if_neg q1] at hv hf
   by_cases q2:(k==⟨#[111,112,116,105,111,110]⟩)=true
   ·rw[if_pos q2] at hv hf
    obtain rfl:=zC hv
    obtain rfl:=zC hf
    exact dI bd.rd (fun w' hg=>her x s w w' h0 hg)
   ·rw[if_neg q2] at hv
    cases hv
 ·have h0:=h
  obtain ⟨jo,⟨vv,vr,vg,bd⟩,⟨l1,l2,l3⟩,fP,hn⟩:=h
  refine ⟨_,_,_,rfl,GP w,?_⟩
  refine (KZ (pr:=p1) (bt:=24) (r:=de s) (sl:=⟨73,2,vv,x.bT.length,KY x.bT⟩) (N1:=fun a x _ _=>x=Qd a) bd hN (fun _ _=>fun _ _ _ _ _ h=>h) rfl (Sg rfl rfl) (by simp only;omega) (fun P w hw c hc=>?_) (fun w' lX=>(JI lX.ev lX.rd fP).mono fun e w2 h2=>h2.cr)).mono ?_
  ·simp only[List.mem_cons,List.not_mem_nil,or_false] at hc
   subst hc
   exact p' P w hw
  ·intro e w' hw
   unfold Gy
   rcases CP.plain Sn hw with ⟨y,hr,rfl,hs⟩|⟨a,s',y,hr,rfl,h2⟩
   ·rw[hr]
    exact ⟨rfl,hs⟩
   ·rw[hr]
    obtain ⟨h3,h4⟩:=yX hr
    have h5:=h3.lt (h4 bd.rd.grown)
    refine ⟨rfl,jo,⟨y,vr,vg,h2⟩,⟨?_,by simp only;omega,by simp only;omega⟩,h3.gu.sm fP,by omega⟩
    simp only[zK,List.length_singleton]
    omega
theorem Mo:(Tryz.prog.info? 71).map (·.size)=some 4:=by kernel_rfl
theorem ck {w:World}{g:Nat}{a0 a1 a2 a3:Value}{t:TypeId} (h:w.heap[g]?=some (.cells #[a0,a1,a2,a3] t (0,0))):(w.cell? ⟨g,0,none⟩=some a0∧w.cell? ⟨g,1,none⟩=some a1∧w.cell? ⟨g,2,none⟩=some a2∧w.cell? ⟨g,3,none⟩=some a3)∧∀j,w.frozen? ⟨g,j,none⟩=false:=by
 refine ⟨⟨?_,?_,?_,?_⟩,fun j=>by simp[World.frozen?,h]⟩<;>rw[cell_of_row _ _ _ _ _ _ h]<;>rfl
def fT (w:World) (g:Nat) (a0 a1 a2 a3:Value):World:=(((w.setCell ⟨g,0,none⟩ a0).setCell ⟨g,1,none⟩ a1).setCell ⟨g,2,none⟩ a2).setCell ⟨g,3,none⟩ a3
theorem mS {w:World}{g:Nat}{b0 b1 b2 b3:Value}{t:TypeId} (h:w.heap[g]?=some (.cells #[b0,b1,b2,b3] t (0,0))) (a0 a1 a2 a3:Value):(fT w g a0 a1 a2 a3).heap[g]?=some (.cells #[a0,a1,a2,a3] t (0,0))∧w.grownBy (fT w g a0 a1 a2 a3) (some g):=by
 obtain ⟨h0,g0⟩:=aC (j:=0) h a0
 obtain ⟨h1,g1⟩:=aC (j:=1) h0 a1
 obtain ⟨h2,g2⟩:=aC (j:=2) h1 a2
 obtain ⟨h3,g3⟩:=aC (j:=3) h2 a3
 exact ⟨h3,((g0.trans g1).trans g2).trans g3⟩
theorem jR {W0 W1 w:World}{g b:Nat} (h:W0.grownBy W1 (some b)) (k:Sv g b W1 w) (hl:W0.heap.size≤g):W0.grownBy w (some b):=⟨k.os.trans h.os,k.tape.trans h.tape,k.output.trans h.output,Nat.le_trans h.size k.size,fun i h1 h2=>(k.block i (by omega) (by simpa using h2)).trans (h.block i h1 h2)⟩
noncomputable def Ep:Code:=match Tryz.f105.body with
 |some (.seq _ (.seq _ (.seq _ (.seq _ t))))=>t
 |_=>.skip
noncomputable def OS (t:Code):Code:=match Tryz.f105.body with
 |some (.seq a (.seq b (.seq c (.seq d _))))=>.seq a (.seq b (.seq c (.seq d t)))
 |_=>.skip
theorem OQ:Tryz.f105.body=some (OS Ep):=rfl
noncomputable def Sq:Code:=match Ep with
 |.seq _ t=>t
 |_=>.skip
noncomputable def aad:Code:=match Ep with
 |.seq a _=>a
 |_=>.skip
theorem K0:Ep=.seq aad Sq:=rfl
noncomputable def tN (x:En) (s:ax):Except (Int×Int) (En×ax):=if x.bT.length=0 then .error (bS s) else match bC s with
 |.error e=>.error e
 |.ok (_,s4)=>.ok (x,s4)
theorem OT {lo b g p1 p2:Nat}{nm:ByteArray}{N:(Nat→Prop)→World→Prop}{V W0 W1 w:World}{x:En}{s:ax}{e0 e1 e2 e3:Value} (h:Ql lo b g nm N V W1 x s w) (hN:aP N) (p':∀P w,N P w→aX p1 #[.pointer (some ⟨b,0,none⟩)] 74 P w) (fB:∀P w,N P w→aX p2 #[e0,e1,e2,e3] 71 P w)
  (bF:aH s.here 4 ⟨#[125]⟩=true) (IK:W0.grownBy W1 (some b)) (jh:lo≤W0.heap.size∧W0.heap.size≤p2∧p2<g) {tm:Array Value} (cl:tm.size=25) (j7:Jg tm [(1,.pointer (some ⟨p1,0,none⟩)),(2,.pointer (some ⟨p2,0,none⟩)),(3,.pointer (some ⟨g,0,none⟩))]) {R:Ending→World→Prop}
  (hR:∀e w,CR lo b NE W0 (tN x s) e w→R e w):Sq.wp Tryz.prog (bodyPost Tryz.prog Tryz.f105 R) ⟨tm,[]⟩ w:=by
 have HR:=ab hR
 obtain ⟨jo,⟨vv,vr,vg,bd⟩,hl,fP,hn⟩:=h
 obtain ⟨va,vc,Tn⟩:=bZ (bd.bx.own 0 _ rfl)
 obtain ⟨ra,rc,hvr⟩:=bZ (bd.bx.own 1 _ rfl)
 obtain ⟨ga,gc,hvg⟩:=bZ (bd.bx.own 2 _ rfl)
 simp only at Tn hvr hvg
 subst Tn hvr hvg
 obtain ⟨⟨b0,b1,b2,b3⟩,bf⟩:=ck bd.bx.lz
 have c1:w.cell? ⟨p1,0,none⟩=some (.pointer (some ⟨b,0,none⟩)):=by rw[cell_of_row _ _ _ _ _ _ (p' _ _ bd.nx).1];rfl
 have HA:=ab bd
 have HN:=ab hN
 have WM:=ab p'
 have Ff:=ab fB
 have WI:=ab bF
 have TV:=ab IK
 have PG:=ab jh
 have Hnm:=ab jo
 have hlen:x.bT.length≤20000:=by omega
 obtain ⟨L,hL⟩:∃L,x.bT.length=L:=⟨_,rfl⟩
 have HL:=ab hL
 rw[hL] at b1 hlen
 obtain ⟨u,rfl⟩:=B9 cl
 obtain ⟨f1,f2,f3,_⟩:=j7
 replace f1:u 1=.pointer (some ⟨p1,0,none⟩):=zC f1
 replace f2:u 2=.pointer (some ⟨p2,0,none⟩):=zC f2
 replace f3:u 3=.pointer (some ⟨g,0,none⟩):=zC f3
 rw[f1,f2,f3]
 clear f1 f2 f3 cl hR bd hN p' fB bF IK jh hl fP hn jo hL bf
 obtain ⟨Q,hQ⟩:∃Q,bodyPost Tryz.prog Tryz.f105 R=Q:=⟨_,rfl⟩
 rw[hQ]
 unfold Sq Ep
 dsimp only[Tryz.f105]
 have ZA:∀y w',tN x s=.error y→w.grownBy w' (some b)→R (qj y.1 y.2) w':=fun y w' hy hg=>aa HR _ _ (by rw[hy];exact ⟨rfl,jR (aa TV) ((aa HA).sv.trans (Sv.of hg (by have:=(aa HA).bx.lt;omega))) (by have:=aa PG;omega)⟩)
 have WG:=ab ZA
 clear ZA
 by_cases hz:L=0
 ·subst hz
  have HW:=ab (jl (aa HA).rd)
  go_wp2_with fail
  refine (aa HW).mono ?_
  rintro e w2 ⟨rfl,bo⟩
  rw[←hQ]
  refine ⟨rfl,aa WG (bS s) w2 ?_ (aD b bo)⟩
  unfold tN
  rw[if_pos (aa HL)]
 ·have jg:((L:Int)==0)=false:=beq_eq_false_iff_ne.2 (by omega)
  have HC:=ab (dX (aa HA).rd (bP (aa HA).rd.grown (by rw[sx (aa WI)];decide)))
  have HEq:Hid (tN x s=match bC s with|.error e=>.error e|.ok (_,s4)=>.ok (x,s4)):=by
   show _=_
   unfold tN
   rw[if_neg (by rw[aa HL];exact hz)]
  clear hz
  go_wp2_with fail
  refine (aa HC).mono ?_
  intro e w2 hw
  rcases hw.split with ⟨y,hr,rfl,hg⟩|⟨_,s4,hr,rfl,h4,hg⟩
  ·rw[←hQ]
   refine ⟨rfl,aa WG y w2 ?_ hg⟩
   rw[aa HEq,hr]
  ·have yV:=(aa HA).read (aa HN) h4 hg
   obtain ⟨⟨d0,d1,d2,d3⟩,_⟩:=ck yV.bx.lz
   obtain ⟨⟨y0,y1,y2,y3⟩,yf⟩:=ck (aa Ff _ _ yV.nx).1
   have f0:=yf 0
   have f1:=yf 1
   have f2:=yf 2
   have f3:=yf 3
   obtain ⟨r1,r2⟩:=mS (aa Ff _ _ yV.nx).1 (.string nm) (.slice va x.bT.length vc) (.slice ra x.res.length rc) (.slice ga x.gone.length gc)
   have cW:∀(i:Nat) (sl:Slot),(ESl x (.slice va x.bT.length vc) (.slice ra x.res.length rc) (.slice ga x.gone.length gc))[i]?=some sl→jd (fun k=>W0.heap.size≤k) (fT w2 p2 (.string nm) (.slice va x.bT.length vc) (.slice ra x.res.length rc) (.slice ga x.gone.length gc)) sl.t sl.sz sl.v sl.n sl.xs:=fun i sl hi=>by
    have h1:=yV.bx.own i sl hi
    have h2:=aa PG
    refine ⟨kq (World.ownsRow.kept h1 r2 ?_) (Nat.zero_le _),fun k hk=>?_⟩
    ·right
     intro e
     have:=(h1.lt p2 e).1
     omega
    ·have:=(h1.lt k hk).1
     omega
   have HE:Hid (R (.returned (.agg #[.string nm,.slice va x.bT.length vc,.slice ra x.res.length rc,.slice ga x.gone.length gc])) (fT w2 p2 (.string nm) (.slice va x.bT.length vc) (.slice ra x.res.length rc) (.slice ga x.gone.length gc))):=by
    refine aa HR _ _ ?_
    rw[aa HEq,hr]
    refine ⟨_,rfl,⟨_,rfl,?_⟩,hZ h4 r2 (by have:=aa PG;omega),dO (jR (aa TV) yV.sv (by have:=aa PG;omega)) r2 (by have:=aa PG;omega)⟩
    have Lz:=aa Hnm
    rw[←Lz] at cW ⊢
    exact .cons (cW 0 _ rfl) (cW 1 _ rfl) (cW 2 _ rfl) .nil
   have R1:=ab r1
   have c14:w2.cell? ⟨p1,0,none⟩=some (.pointer (some ⟨b,0,none⟩)):=by rw[cell_of_row _ _ _ _ _ _ (aa WM _ _ yV.nx).1];rfl
   unfold fT at HE R1
   clear hw hr h4 hg yV yf r1 r2 cW HC HEq WG c1 b0 b1 b2 b3
   go_wp2
   rw[←hQ]
   exact bodyPost_ret (results_cell_row rfl _ _ p2 71 #[.string nm,.slice va x.bT.length vc,.slice ra x.res.length rc,.slice ga x.gone.length gc] (0,0) _ rfl (aa R1) Tryz.underlying71 rfl Mo) rfl (aa HE)
end Go.Proofs.YtjophoclfccmcaaGreatDoor

import Derived.Test.YtmlphohdcejniaaGreatDoorPbL
set_option maxHeartbeats 4000000
set_option maxRecDepth 100000
namespace Go.Proofs.YtmlphohdcejniaaGreatDoor
open Go.RowKit
attribute [local go_sem ↓] Go.wp_at_zero Go.wp_at_succ
section
variable {P : Program} {ops : Array Oper} {Q : Exit → Act → World → Prop}
def Bg (ops:Array Oper):Nat→Nat→Nat→Bool
 |0,a,i=>fE ops a i
 |f+1,a,i=>fE ops a i ||(List.range a).any fun j=>fE ops a j&&Bg ops f j i
theorem Dd (D:Nat→Prop) (gE:∀k j,D k→lC ops k j→D j):∀(f a i:Nat),(∀j,lC ops a j→D j)→Bg ops f a i=true→D i
 |0,a,i,hD,h=>hD i (eC h)
 |f+1,a,i,hD,h=>by
  unfold Bg at h
  rw[Bool.or_eq_true] at h
  rcases h with h|h
  ·exact hD i (eC h)
  ·obtain ⟨j,_,h2⟩:=List.any_eq_true.1 h
   rw[Bool.and_eq_true] at h2
   exact Dd D gE f j i (fun k hk=>gE j k (hD j (eC h2.1)) hk) h2.2
def Vt (ops:Array Oper) (z:Nat):Bool:=(List.range z).all fun i=>Bg ops 4 z i
theorem Ix {z:Nat} (h:Vt ops z=true):∀D:Nat→Prop,(∀k j,D k→lC ops k j→D j)→(∀j,lC ops z j→D j)→∀i,i<z→D i:=fun D gE hD i hi=>Dd D gE 4 z i hD (List.all_eq_true.1 h i (List.mem_range.2 hi))
theorem pz {id z N:Nat} (QO:P.follows .mixedOrders=true) (s:Nat→Nat) (G:Array Bool→Array Value→World→Prop) (iv:Array Value) (w0:World)
  (hn:ops.size=z+1) (hN:iv.size=N) (hs:∀i,i<z→s i<N) (DY:IL ops (z+1)=true) (hz:Vt ops z=true) (h0:∀d,(∀k,d.getD k false=false)→d.size=z+1→G d iv w0.drew)
  (step:∀k d tm w,k<z→d.size=z+1→(∀k j,d.getD k false=true→lC ops k j→d.getD j false=true)→d.getD k false=false→(∀j,fE ops k j=true→j<k∧d.getD j false=true)→tm.size=N→(∀j,(∀i,i<z→s i≠j)→tm.getD j undef=iv.getD j undef)→G d tm w →
   wpOp P ops Q k (fun a' w'=>∃v,a'=⟨tm.setIfInBounds (s k) v,[]⟩∧G (d.setIfInBounds k true) (tm.setIfInBounds (s k) v) w') ⟨tm,[]⟩ w)
  (last:∀d tm w,(∀j,j<z→d.getD j false=true)→tm.size=N→(∀j,(∀i,i<z→s i≠j)→tm.getD j undef=iv.getD j undef)→G d tm w→wpOp P ops Q z (fun a' w'=>Q .normal a' w') ⟨tm,[]⟩ w) :
  (Code.region id ops true).wp P Q ⟨iv,[]⟩ w0:=by
 have hb:=IK hn DY
 refine wp_region_any QO (ru (md:=.any) (fun d a w=>d.size=z+1∧(∀k j,d.getD k false=true→lC ops k j→d.getD j false=true)∧((d.getD z false=false∧∃tm,a=⟨tm,[]⟩∧tm.size=N∧(∀j,(∀i,i<z→s i≠j)→tm.getD j undef=iv.getD j undef)∧G d tm w)∨(d.getD z false=true∧Q .normal a w))) ?_ ?_ _ _ _ _ ?_ ?_)
 ·rintro d a w i ⟨hd,gE,Nq⟩ hr
  obtain ⟨hi,rT⟩:=qm hr
  obtain ⟨_,o,ho,jq⟩:=mem_ready.1 hr
  have jm:d.getD i false=false:=by simp[hi,rT]
  have hw:∀k,lC ops i k→d.getD k false=true:=by
   rintro k ⟨o',BL,e,he,hb,rfl⟩
   rw[ho] at BL
   obtain rfl:=zC BL
   exact jq e he hb
  have DW:∀k j,(d.setIfInBounds i true).getD k false=true→lC ops k j→(d.setIfInBounds i true).getD j false=true:=by
   intro k j hk hj
   by_cases e:j=i
   ·subst e
    exact bV hi
   ·rw[aB (Ne.symm e)]
    by_cases e2:k=i
    ·subst e2
     exact hw j hj
    ·rw[aB (Ne.symm e2)] at hk
     exact gE k j hk hj
  have iD:(d.setIfInBounds i true).size=z+1:=by rw[Array.size_setIfInBounds];exact hd
  rcases Nq with ⟨Cy,tm,rfl,h1,h2,h3⟩|⟨Cy,hq⟩
  rotate_left
  ·exfalso
   have QS:i<z:=by
    rcases Nat.lt_or_ge i z with q|q
    ·exact q
    ·obtain rfl:i=z:=by omega
     rw[Cy] at jm;cases jm
   have:=Ix hz (fun k=>d.getD k false=true) gE (fun j hj=>gE _ _ Cy hj) i QS
   rw[this] at jm;cases jm
  by_cases QS:i=z
  ·subst QS
   have jU:=Ix hz (fun k=>d.getD k false=true) gE hw
   refine wpOp_mono ?_ (last d tm w jU h1 h2 h3)
   intro a' w' hq
   exact ⟨iD,DW,.inr ⟨bV hi,hq⟩⟩
  ·have BM:i<z:=by omega
   refine wpOp_mono ?_ (step i d tm w BM hd gE jm (fun j hj=>⟨?_,hw j (eC hj)⟩) h1 h2 h3)
   ·rintro a' w' ⟨v,rfl,hg⟩
    refine ⟨iD,DW,.inl ⟨by rw[aB QS];exact Cy,_,rfl,by rw[Array.size_setIfInBounds];exact h1,fun j hj=>by rw[aB (hj i BM)];exact h2 j hj,hg⟩⟩
   ·obtain ⟨o',BL,e,he,_,rfl⟩:=eC hj
    exact hb i o' BL e he
 ·rintro d a w ⟨hd,gE,⟨Cy,_⟩|⟨_,hq⟩⟩ hr
  ·exfalso
   have jq:∀m i,i<m→i<z+1→d.getD i false=true:=by
    intro m
    induction m with
    |zero=>intro i hi;omega
    |succ m ih =>
     intro i hi KO
     obtain ⟨o,ho⟩:∃o,ops[i]?=some o:=⟨_,Array.getElem?_eq_getElem (by omega)⟩
     exact IC (by omega) hr ho fun e he _=>ih e.on (by have:=hb i o ho e he;omega) (by have:=hb i o ho e he;omega)
   rw[jq (z+1) z (by omega) (by omega)] at Cy;cases Cy
  ·exact hq
 ·have DP:∀k,(Array.replicate ops.size false).getD k false=false:=fun k=>by
   simp[Array.getD_eq_getD_getElem?,Array.getElem?_replicate]
   split<;>simp
  exact ⟨by simp[hn],fun k j hk _=>(by rw[DP k] at hk;cases hk),.inl ⟨DP z,iv,rfl,hN,fun _ _=>rfl,h0 _ DP (by simp[hn])⟩⟩
 ·simp
theorem iB {id z N:Nat} (c:Nat) (QO:P.follows .mixedOrders=true) (s:Nat→Nat) (val:Nat→Value) (Φ0:World→Prop) (Φ1:Value→World→Prop) (iv:Array Value) (w0:World)
  (hn:ops.size=z+1) (hN:iv.size=N) (Ng:∀i j,i<z→j<z→s i=s j→i=j) (hs:∀i,i<z→s i<N) (DY:IL ops (z+1)=true) (hz:Vt ops z=true) (h0:Φ0 w0.drew)
  (quiet:∀k tm w,k<z→k≠c→tm.size=N→(∀j,(∀i,i<z→s i≠j)→tm.getD j undef=iv.getD j undef)→(∀j,j≠c→fE ops k j=true→tm.getD (s j) undef=val j)→(Φ0 w∨∃x,Φ1 x w)→wpOp P ops Q k (fun a' w'=>a'=⟨tm.setIfInBounds (s k) (val k),[]⟩∧w'=w) ⟨tm,[]⟩ w)
  (call:c<z→∀tm w,tm.size=N→(∀j,(∀i,i<z→s i≠j)→tm.getD j undef=iv.getD j undef)→(∀j,j≠c→fE ops c j=true→tm.getD (s j) undef=val j)→Φ0 w→wpOp P ops Q c (fun a' w'=>∃x,a'=⟨tm.setIfInBounds (s c) x,[]⟩∧Φ1 x w') ⟨tm,[]⟩ w)
  (last:∀tm w,tm.size=N→(∀j,(∀i,i<z→s i≠j)→tm.getD j undef=iv.getD j undef)→(∀j,j<z→j≠c→tm.getD (s j) undef=val j)→((c<z∧Φ1 (tm.getD (s c) undef) w)∨(z≤c∧Φ0 w))→wpOp P ops Q z (fun a' w'=>Q .normal a' w') ⟨tm,[]⟩ w) :
  (Code.region id ops true).wp P Q ⟨iv,[]⟩ w0:=by
 refine pz QO s (fun d tm w=>(∀j,j<z→j≠c→d.getD j false=true→tm.getD (s j) undef=val j)∧(((d.getD c false=false∨z≤c)∧Φ0 w)∨(c<z∧d.getD c false=true∧Φ1 (tm.getD (s c) undef) w))) iv w0 hn hN hs DY hz ?_ ?_ ?_
 ·intro d hd _
  exact ⟨fun j _ _ h=>(by rw[hd j] at h;cases h),.inl ⟨.inl (hd c),h0⟩⟩
 ·intro k d tm w hk hd gE rT hw bU b9 hG
  obtain ⟨lI,zc⟩:=hG
  have aW:∀j,j≠c→fE ops k j=true→tm.getD (s j) undef=val j:=fun j J1 hj=>lI j (by have:=(hw j hj).1;omega) J1 (hw j hj).2
  by_cases UF:k=c
  ·subst UF
   rcases zc with ⟨_,h1⟩|⟨_,h1,_⟩
   ·refine wpOp_mono ?_ (call hk tm w bU b9 aW h1)
    rintro a' w' ⟨x,rfl,hx⟩
    refine ⟨x,rfl,fun j hj J1 qA=>?_,.inr ⟨hk,bV (by omega),by rw[bV (by rw[bU];exact hs k hk)];exact hx⟩⟩
    rw[aB (Ne.symm J1)] at qA
    rw[aB (fun q=>J1 (Ng k j hk hj q).symm)]
    exact lI j hj J1 qA
   ·rw[h1] at rT;cases rT
  ·refine wpOp_mono ?_ (quiet k tm w hk UF bU b9 aW (by rcases zc with ⟨_,h1⟩|⟨_,_,h1⟩;exact .inl h1;exact .inr ⟨_,h1⟩))
   rintro a' w' ⟨rfl,rfl⟩
   refine ⟨_,rfl,fun j hj J1 qA=>?_,?_⟩
   ·by_cases e:j=k
    ·subst e
     exact bV (by rw[bU];exact hs j hj)
    ·rw[aB (Ne.symm e)] at qA
     rw[aB (fun q=>e (Ng k j hk hj q).symm)]
     exact lI j hj J1 qA
   ·rw[aB UF]
    rcases zc with h1|⟨h1,h2,h3⟩
    ·exact .inl h1
    ·exact .inr ⟨h1,h2,by rw[aB (fun q=>UF (Ng k c hk h1 q))];exact h3⟩
 ·intro d tm w hd bU b9 hG
  refine last tm w bU b9 (fun j hj J1=>hG.1 j hj J1 (hd j hj)) ?_
  rcases hG.2 with ⟨h1,h2⟩|⟨h1,_,h3⟩
  ·rcases Nat.lt_or_ge c z with q|q
   ·rcases h1 with h1|h1
    ·rw[hd c q] at h1;cases h1
    ·omega
   ·exact .inr ⟨q,h2⟩
  ·exact .inl ⟨h1,h3⟩
theorem nI {i:Nat}{o:Oper}{a:Act}{w:World}{K:Act→World→Prop} (ho:ops[i]?=some o) (hg:o.guard=none) (fn:Fn) (fs cs:Array Operand) (jS:o.op=.makeFunc fn fs cs) (vf vc:Array Value) (hf:fs.map a.eval=vf) (hc:cs.map a.eval=vc) (hK:K (a.put o.dst (.func fn vf vc)) w):wpOp P ops Q i K a w:=by
 refine nH ho hg (v:=.func fn vf vc) (w':=w) ?_ hK
 simp only[execOp,jS,hf,hc]
 exact GX rfl
theorem Dq {i:Nat}{o:Oper}{a:Act}{w w':World}{K:Act→World→Prop}{v:Value} (ho:ops[i]?=some o) (hg:o.guard=none) (t:TypeId) (parts:Array (Nat×Operand)) (jS:o.op=.build t parts) (vs:Array (Nat×Value)) (hv:(parts.map fun p=>(p.1,a.eval p.2))=vs) (hr:(Instr.build t vs).run P w=.ok v w') (hK:K (a.put o.dst v) w'):wpOp P ops Q i K a w:=by
 refine nH ho hg (v:=v) (w':=w') ?_ hK
 simp only[execOp,jS,hv]
 exact GX hr
end
end Go.Proofs.YtmlphohdcejniaaGreatDoor
namespace Go.Proofs.YtmlphohdcejniaaGreatDoor
open Go.RowKit
attribute [local go_sem ↓] Go.wp_at_zero Go.wp_at_succ
theorem qM (w:World) (vs:Array Value):(callFunc 156 vs).run Tryz.prog w=.ok (.enter 156 vs) w:=by
 have hn:¬Tryz.f156.name = "runtime.NumGoroutine" := by decide +kernel
 have hb:Tryz.f156.body.isSome=true:=by kernel_rfl
 obtain ⟨c,hc⟩:=zG hb
 simp[callFunc,Tryz.func156,hn,hc]
theorem yp (w:World) (vs:Array Value):(callFunc 123 vs).run Tryz.prog w=.ok (.enter 123 vs) w:=by
 have hn:¬Tryz.f123.name = "runtime.NumGoroutine" := by decide +kernel
 have hb:Tryz.f123.body.isSome=true:=by kernel_rfl
 obtain ⟨c,hc⟩:=zG hb
 simp[callFunc,Tryz.func123,hn,hc]
theorem Gh (w:World) (vs:Array Value):(callFunc 127 vs).run Tryz.prog w=.ok (.enter 127 vs) w:=by
 have hn:¬Tryz.f127.name = "runtime.NumGoroutine" := by decide +kernel
 have hb:Tryz.f127.body.isSome=true:=by kernel_rfl
 obtain ⟨c,hc⟩:=zG hb
 simp[callFunc,Tryz.func127,hn,hc]
theorem Eo (w:World) (vs:Array Value):(callFunc 124 vs).run Tryz.prog w=.ok (.enter 124 vs) w:=by
 have hn:¬Tryz.f124.name = "runtime.NumGoroutine" := by decide +kernel
 have hb:Tryz.f124.body.isSome=true:=by kernel_rfl
 obtain ⟨c,hc⟩:=zG hb
 simp[callFunc,Tryz.func124,hn,hc]
theorem Es (w:World) (vs:Array Value):(callFunc 172 vs).run Tryz.prog w=.ok (.enter 172 vs) w:=by
 have hn:¬Tryz.f172.name = "runtime.NumGoroutine" := by decide +kernel
 have hb:Tryz.f172.body.isSome=true:=by kernel_rfl
 obtain ⟨c,hc⟩:=zG hb
 simp[callFunc,Tryz.func172,hn,hc]
theorem OP (w:World):(Instr.build 196 #[(0,.int .i64 (-2147483648)),(1,.int .i64 2147483647),(2,.bool true)]).run Tryz.prog w=.ok (.agg #[.int .i64 (-2147483648),.int .i64 2147483647,.bool true]) w:=by
 go_simp
theorem K6 {lo b g pm pr:Nat}{nm:ByteArray}{ss:List Slot}{N:(Nat→Prop)→World→Prop}{V W w0:World}{s:aD}{rs:List (Int×Int)}{gs:List ByteArray}{vr vg:Value} (h:Ap lo b g 68 nm ss N V W s w0) (hN:aK N) (hR:ss[1]?=some ⟨111,2,vr,rs.length,lj rs⟩) (hG:ss[2]?=some ⟨9,1,vg,gs.length,bW gs⟩) (hp:0<s.ts.length) (hs:Sm s) (Wz:rs.length+s.ts.length≤20000) (WB:gs.length+s.ts.length≤20000)
  (ri:∀P w,N P w→aP pr #[.pointer (some ⟨b,0,none⟩)] 107 P w) (gJ:∀P w,N P w→aP pm #[.pointer (some ⟨g,0,none⟩)] 170 P w):Calls Tryz.prog 163 #[.pointer (some ⟨pr,0,none⟩),.pointer (some ⟨pm,0,none⟩)] w0 (Cm lo b g 68 nm ss N V W 1 2 (je (-2147483648) 2147483647 true rs gs s)):=by
 have hd:=h.up hN (zE w0.heap.size w0).drew
 have cR:w0.drew.cell? ⟨pr,0,none⟩=some (.pointer (some ⟨b,0,none⟩)):=by rw[cell_of_row _ _ _ _ _ _ (ri _ _ hd.nx).1];rfl
 have cM:w0.drew.cell? ⟨pm,0,none⟩=some (.pointer (some ⟨g,0,none⟩)):=by rw[cell_of_row _ _ _ _ _ _ (gJ _ _ hd.nx).1];rfl
 go_enter Tryz.func163,Tryz.ntmps163
 refine iB (z:=8) (N:=11) 8 (by kernel_rfl) (fun k=>k+2) (fun k=>[.pointer (some ⟨b,0,none⟩),.agg #[.int .i64 (-2147483648),.int .i64 2147483647,.bool true],.pointer (some ⟨g,0,none⟩),.pointer (some ⟨g,0,none⟩),.pointer (some ⟨g,2,none⟩),.pointer (some ⟨g,0,none⟩),.pointer (some ⟨g,0,none⟩),.pointer (some ⟨g,3,none⟩)].getD k undef) (fun w=>w=w0.drew) (fun _ _=>False) _ w0 rfl rfl (fun i j _ _ e=>by omega) (fun i hi=>by omega) (by kernel_rfl) (by kernel_rfl) rfl ?_ (fun hc=>by omega) ?_
 ·intro k tm w hk _ bU b9 aW hw
  rcases hw with rfl|⟨_,hf⟩
  rotate_left
  ·exact hf.elim
  match k,hk with
  |0,_=>exact aT rfl rfl _ (.tmp 0) rfl (b9 0 (by intro i hi;omega)) (cV _ cR) ⟨rfl,rfl⟩
  |1,_=>exact Dq rfl rfl _ _ rfl (#[(0,.int .i64 (-2147483648)),(1,.int .i64 2147483647),(2,.bool true)]) (by simp only[List.map_toArray,List.map_cons,List.map_nil,Act.eval]) (OP _) ⟨rfl,rfl⟩
  |2,_=>exact aT rfl rfl _ (.tmp 1) rfl (b9 1 (by intro i hi;omega)) (xz _ cM) ⟨rfl,rfl⟩
  |3,_=>exact aY rfl rfl (.tmp 4) rfl (aW 2 (by omega) (by kernel_rfl)) ⟨rfl,rfl⟩
  |4,_=>exact bK rfl rfl _ (.tmp 5) _ rfl (aW 3 (by omega) (by kernel_rfl)) (Kc _) ⟨rfl,rfl⟩
  |5,_=>exact aT rfl rfl _ (.tmp 1) rfl (b9 1 (by intro i hi;omega)) (xz _ cM) ⟨rfl,rfl⟩
  |6,_=>exact aY rfl rfl (.tmp 7) rfl (aW 5 (by omega) (by kernel_rfl)) ⟨rfl,rfl⟩
  |7,_=>exact bK rfl rfl _ (.tmp 8) _ rfl (aW 6 (by omega) (by kernel_rfl)) (Kb _) ⟨rfl,rfl⟩
 ·intro tm w bU b9 dt hw
  rcases hw with ⟨hc,_⟩|⟨_,rfl⟩
  ·omega
  refine cn rfl rfl 156 (qM _) _ _ rfl #[.pointer (some ⟨b,0,none⟩),.agg #[.int .i64 (-2147483648),.int .i64 2147483647,.bool true],.pointer (some ⟨g,2,none⟩),.pointer (some ⟨g,3,none⟩)] ?_ (qj hd hN (by decide) hR hG hp hs Wz WB) ?_
  ·simp only[List.map_toArray,List.map_cons,List.map_nil,Act.eval]
   rw[show tm.getD 2 undef=_ from dt 0 (by omega) (by omega),show tm.getD 3 undef=_ from dt 1 (by omega) (by omega),show tm.getD 6 undef=_ from dt 4 (by omega) (by omega),show tm.getD 9 undef=_ from dt 7 (by omega) (by omega)]
   rfl
  ·intro e w' hr
   have QL:=hr
   unfold Cm at hr
   cases hq:je (-2147483648) 2147483647 true rs gs s with
   |error y =>
    rw[hq] at hr QL
    obtain ⟨rfl,hs⟩:=hr
    exact .inr ⟨_,rfl,rfl,QL⟩
   |ok y =>
    rw[hq] at hr QL
    obtain ⟨rfl,hs⟩:=hr
    refine .inl ⟨_,rfl,?_⟩
    go_end0
    exact QL
theorem OQ (w:World):(Instr.build 196 #[(0,.int .i64 1),(1,.int .i64 536870911)]).run Tryz.prog w=.ok (.agg #[.int .i64 1,.int .i64 536870911,.bool false]) w:=by
 go_simp
theorem MI {lo b g pm pr:Nat}{nm:ByteArray}{ss:List Slot}{N:(Nat→Prop)→World→Prop}{V W w0:World}{s:aD}{rs:List (Int×Int)}{gs:List ByteArray}{vr vg:Value} (h:Ap lo b g 64 nm ss N V W s w0) (hN:aK N) (hR:ss[4]?=some ⟨111,2,vr,rs.length,lj rs⟩) (hG:ss[5]?=some ⟨9,1,vg,gs.length,bW gs⟩) (hp:0<s.ts.length) (hs:Sm s) (Wz:rs.length+s.ts.length≤20000) (WB:gs.length+s.ts.length≤20000)
  (ri:∀P w,N P w→aP pr #[.pointer (some ⟨b,0,none⟩)] 107 P w) (gJ:∀P w,N P w→aP pm #[.pointer (some ⟨g,0,none⟩)] 167 P w):Calls Tryz.prog 155 #[.pointer (some ⟨pr,0,none⟩),.pointer (some ⟨pm,0,none⟩)] w0 (Cm lo b g 64 nm ss N V W 4 5 (je 1 536870911 false rs gs s)):=by
 have hd:=h.up hN (zE w0.heap.size w0).drew
 have cR:w0.drew.cell? ⟨pr,0,none⟩=some (.pointer (some ⟨b,0,none⟩)):=by rw[cell_of_row _ _ _ _ _ _ (ri _ _ hd.nx).1];rfl
 have cM:w0.drew.cell? ⟨pm,0,none⟩=some (.pointer (some ⟨g,0,none⟩)):=by rw[cell_of_row _ _ _ _ _ _ (gJ _ _ hd.nx).1];rfl
 go_enter Tryz.func155,Tryz.ntmps155
 refine iB (z:=8) (N:=11) 8 (by kernel_rfl) (fun k=>k+2) (fun k=>[.pointer (some ⟨b,0,none⟩),.agg #[.int .i64 1,.int .i64 536870911,.bool false],.pointer (some ⟨g,0,none⟩),.pointer (some ⟨g,0,none⟩),.pointer (some ⟨g,5,none⟩),.pointer (some ⟨g,0,none⟩),.pointer (some ⟨g,0,none⟩),.pointer (some ⟨g,6,none⟩)].getD k undef) (fun w=>w=w0.drew) (fun _ _=>False) _ w0 rfl rfl (fun i j _ _ e=>by omega) (fun i hi=>by omega) (by kernel_rfl) (by kernel_rfl) rfl ?_ (fun hc=>by omega) ?_
 ·intro k tm w hk _ bU b9 aW hw
  rcases hw with rfl|⟨_,hf⟩
  rotate_left
  ·exact hf.elim
  match k,hk with
  |0,_=>exact aT rfl rfl _ (.tmp 0) rfl (b9 0 (by intro i hi;omega)) (cV _ cR) ⟨rfl,rfl⟩
  |1,_=>exact Dq rfl rfl _ _ rfl (#[(0,.int .i64 1),(1,.int .i64 536870911)]) (by simp only[List.map_toArray,List.map_cons,List.map_nil,Act.eval]) (OQ _) ⟨rfl,rfl⟩
  |2,_=>exact aT rfl rfl _ (.tmp 1) rfl (b9 1 (by intro i hi;omega)) (cD _ cM) ⟨rfl,rfl⟩
  |3,_=>exact aY rfl rfl (.tmp 4) rfl (aW 2 (by omega) (by kernel_rfl)) ⟨rfl,rfl⟩
  |4,_=>exact bK rfl rfl _ (.tmp 5) _ rfl (aW 3 (by omega) (by kernel_rfl)) (Rv _) ⟨rfl,rfl⟩
  |5,_=>exact aT rfl rfl _ (.tmp 1) rfl (b9 1 (by intro i hi;omega)) (cD _ cM) ⟨rfl,rfl⟩
  |6,_=>exact aY rfl rfl (.tmp 7) rfl (aW 5 (by omega) (by kernel_rfl)) ⟨rfl,rfl⟩
  |7,_=>exact bK rfl rfl _ (.tmp 8) _ rfl (aW 6 (by omega) (by kernel_rfl)) (Ru _) ⟨rfl,rfl⟩
 ·intro tm w bU b9 dt hw
  rcases hw with ⟨hc,_⟩|⟨_,rfl⟩
  ·omega
  refine cn rfl rfl 156 (qM _) _ _ rfl #[.pointer (some ⟨b,0,none⟩),.agg #[.int .i64 1,.int .i64 536870911,.bool false],.pointer (some ⟨g,5,none⟩),.pointer (some ⟨g,6,none⟩)] ?_ (qj hd hN (by decide) hR hG hp hs Wz WB) ?_
  ·simp only[List.map_toArray,List.map_cons,List.map_nil,Act.eval]
   rw[show tm.getD 2 undef=_ from dt 0 (by omega) (by omega),show tm.getD 3 undef=_ from dt 1 (by omega) (by omega),show tm.getD 6 undef=_ from dt 4 (by omega) (by omega),show tm.getD 9 undef=_ from dt 7 (by omega) (by omega)]
   rfl
  ·intro e w' hr
   have QL:=hr
   unfold Cm at hr
   cases hq:je 1 536870911 false rs gs s with
   |error y =>
    rw[hq] at hr QL
    obtain ⟨rfl,hs⟩:=hr
    exact .inr ⟨_,rfl,rfl,QL⟩
   |ok y =>
    rw[hq] at hr QL
    obtain ⟨rfl,hs⟩:=hr
    refine .inl ⟨_,rfl,?_⟩
    go_end0
    exact QL
theorem sN {lo hi:Int}{mi:Bool}{s s1:aD}{n:Int} (h:cG lo hi mi s=.ok (n,s1)):Gt s s1:=by
 unfold cG at h
 split at h
 ·cases h
 ·rename_i u s2 h2
  split at h
  ·cases h
  ·rename_i m s3 h3
   split at h
   ·cases h
   ·split at h
    ·cases h
    ·rename_i u4 s4 h4
     simp only[Except.ok.injEq,Prod.mk.injEq] at h
     obtain ⟨_,rfl⟩:=h
     exact ((bR h2).gt (sd h3)).dW (bR h4)
theorem nG {s s1:aD}{x:ByteArray} (h:cy s=.ok (x,s1)) (he:s.en.kind=5):0<s.ts.length:=bS he (by rw[(oh h).2.2];decide)
theorem D3 {s s1:aD}{v:ByteArray×Int} (h:gB s=.ok (v,s1)):Gt s s1∧(s.en.kind=5→0<s.ts.length):=by
 unfold gB at h
 split at h
 ·cases h
 ·rename_i x s2 h2
  split at h
  ·cases h
  ·rename_i n s3 h3
   simp only[Except.ok.injEq,Prod.mk.injEq] at h
   obtain ⟨_,rfl⟩:=h
   exact ⟨(lu (s:=s.begun) h2).dW (sN h3).jA,fun he=>nG (s:=s.begun) h2 he⟩
theorem BS {bl bh:Int}{bm:Bool}{rs:List (Int×Int)}{gs:List ByteArray}{s s':aD}{l:List (Int×Int)×List ByteArray} (h:je bl bh bm rs gs s=.ok (l,s')):Gt s s':=by
 unfold je at h
 split at h
 ·cases h
 ·rename_i u s1 h1
  split at h
  ·split at h
   ·cases h
   ·rename_i l2 s2 h2
    simp only[Except.ok.injEq,Prod.mk.injEq] at h
    obtain ⟨_,rfl⟩:=h
    exact (dx h1).dW (qa (fun s a s1 h=>(vI h).jA) h2)
  ·split at h
   ·cases h
   ·rename_i l2 s2 h2
    simp only[Except.ok.injEq,Prod.mk.injEq] at h
    obtain ⟨_,rfl⟩:=h
    exact (dx h1).dW (qa (fun s a s1 h=>(BR h).jA) h2)
theorem mR {σ:Type}{F:ByteArray→Option (fQ σ)}{O:fQ σ} (hF:∀k f,F k=some f→∀x s x' s',f x s=.ok (x',s')→Gt s s') (hO:∀x s x' s',O x s=.ok (x',s')→Gt s s'∧(s.en.kind=5→0<s.ts.length)) {x x':σ}{s s':aD} (h:bT F O x s=.ok (x',s')):Gt s s'∧(s.en.kind=5→0<s.ts.length):=by
 unfold bT at h
 split at h
 ·cases h
 ·rename_i s1 h1
  simp only[Except.ok.injEq,Prod.mk.injEq] at h
  obtain ⟨_,rfl⟩:=h
  rcases mB h1 with ⟨e,_⟩|⟨_,h2,h3⟩
  ·cases e
  ·exact ⟨.tail h2 (GO h1),fun he=>bS he (by rw[h3];decide)⟩
 ·split at h
  ·rename_i f hf
   split at h
   ·rename_i hk
    exact ⟨hF _ _ hf _ _ _ _ h,fun he=>bS he (by rw[hk];decide)⟩
   ·exact hO _ _ _ _ h
  ·exact hO _ _ _ _ h
theorem vt {σ:Type}{F:ByteArray→Option (fQ σ)}{O:fQ σ} (hF:∀k f,F k=some f→∀x s x' s',f x s=.ok (x',s')→Gt s s') (hO:∀x s x' s',O x s=.ok (x',s')→Gt s s'∧(s.en.kind=5→0<s.ts.length)) {x x':σ}{s s':aD} (he:s.en.kind=5) (h:bT F O x s=.ok (x',s')):s'.ts.length<s.ts.length:=by
 obtain ⟨h1,h2⟩:=mR hF hO h
 exact h1.lt (h2 he)
theorem zX {σ:Type}{st:fQ σ} (FL:∀x s x' s',st x s=.ok (x',s')→lL s s'):∀(n:Nat) (x:σ) (s:aD) (x':σ) (s':aD),eR st n x s=.ok (x',s')→lL s s'∧cZ s'.here 4 ⟨#[125]⟩=true
 |0,_,_,_,_,h=>by cases h
 |n+1,x,s,x',s',h=>by
  unfold eR at h
  split at h
  ·rename_i hp
   simp only[Except.ok.injEq,Prod.mk.injEq] at h
   obtain ⟨_,rfl⟩:=h
   exact ⟨.refl _,hp⟩
  ·split at h
   ·cases h
   ·rename_i x1 s1 h1
    obtain ⟨h2,h3⟩:=zX FL n _ _ _ _ h
    exact ⟨(FL _ _ _ _ h1).trans h2,h3⟩
theorem lR {σ:Type}{st:fQ σ} (FL:∀x s x' s',st x s=.ok (x',s')→lL s s') {x x':σ}{s s':aD} (h:ie st x s=.ok (x',s')):lL s s'∧cZ s'.here 4 ⟨#[125]⟩=true:=by
 unfold ie at h
 split at h
 ·cases h
 ·rename_i u s1 h1
  obtain ⟨h2,h3⟩:=zX FL _ _ _ _ _ h
  exact ⟨(bR h1).trans h2,h3⟩
theorem rH {t:Tk}{k:Int}{x:ByteArray} (h:cZ t k x=true):t.kind=k:=by
 unfold cZ at h
 rw[Bool.and_eq_true] at h
 exact eq_of_beq h.1
def dv {σ:Type}:fQ σ:=fun _ s=>.error (52,s.here.spot)
noncomputable def Kf:fQ En:=fun x s=>match gB s with
 |.error e=>.error e
 |.ok (v,s')=>.ok ({ x with bL:=x.bL++[v] },s')
noncomputable def Og:fQ En:=fun x s=>match je (-2147483648) 2147483647 true x.res x.gone s with
 |.error e=>.error e
 |.ok (l,s')=>.ok ({ x with res:=l.1,gone:=l.2 },s')
noncomputable def B5:ByteArray→Option (fQ En):=fun k=>if (k==⟨#[114,101,115,101,114,118,101,100]⟩)=true then some Og else if (k==⟨#[111,112,116,105,111,110]⟩)=true then some dv else none
theorem Ge (x:En) (s:aD) (x':En) (s':aD) (h:Kf x s=.ok (x',s')):Gt s s'∧(s.en.kind=5→0<s.ts.length):=by
 unfold Kf at h
 split at h
 ·cases h
 ·rename_i v s1 h1
  simp only[Except.ok.injEq,Prod.mk.injEq] at h
  obtain ⟨_,rfl⟩:=h
  exact D3 h1
theorem Gd (k:ByteArray) (f:fQ En) (hf:B5 k=some f) (x:En) (s:aD) (x':En) (s':aD) (h:f x s=.ok (x',s')):Gt s s':=by
 unfold B5 at hf
 split at hf
 ·obtain rfl:=zC hf
  unfold Og at h
  split at h
  ·cases h
  ·rename_i l s1 h1
   simp only[Except.ok.injEq,Prod.mk.injEq] at h
   obtain ⟨_,rfl⟩:=h
   exact BS h1
 ·split at hf
  ·obtain rfl:=zC hf
   cases h
  ·cases hf
noncomputable def iH (s:aD):Except (Int×Int) (En×aD):=match bE s.begun with
 |.error e=>.error e
 |.ok (_,s1)=>match cy s1 with
  |.error e=>.error e
  |.ok (nm,s2)=>match ie (bT B5 Kf) ⟨nm,[],[],[]⟩ s2 with
   |.error e=>.error e
   |.ok (x,s3)=>if x.bL.length=0 then .error (cH s3) else match bE s3 with
    |.error e=>.error e
    |.ok (_,s4)=>.ok (x,s4)
theorem vJ {s s':aD}{x:En} (h:iH s=.ok (x,s')):Gt s s':=by
 unfold iH at h
 split at h
 ·cases h
 ·rename_i u s1 h1
  split at h
  ·cases h
  ·rename_i nm s2 h2
   split at h
   ·cases h
   ·rename_i x3 s3 h3
    split at h
    ·cases h
    ·split at h
     ·cases h
     ·rename_i u4 s4 h4
      simp only[Except.ok.injEq,Prod.mk.injEq] at h
      obtain ⟨_,rfl⟩:=h
      exact (((dx (s:=s.begun) h1).dW (lu h2).jA).dW (lR (fun x s x' s' h=>(mR Gd Ge h).1.jA) h3).1).dW (dx h4).jA
def ESl (x:En) (vv vr vg:Value):List Slot:=[⟨94,2,vv,x.bL.length,xZ x.bL⟩,⟨111,2,vr,x.res.length,lj x.res⟩,⟨9,1,vg,x.gone.length,bW x.gone⟩]
def PN (lo b g:Nat) (nm:ByteArray) (N:(Nat→Prop)→World→Prop) (V W:World) (x:En) (s:aD) (w:World):Prop:=x.name=nm∧(∃vv vr vg,Ap lo b g 68 nm (ESl x vv vr vg) N V W s w)∧(x.bL.length+s.ts.length≤20000∧x.res.length+s.ts.length≤20000∧x.gone.length+s.ts.length≤20000)∧Sm s∧s.ts.length≤16384
theorem PN.step {lo b g:Nat}{nm:ByteArray}{N:(Nat→Prop)→World→Prop}{V W w w':World}{x:En}{s s':aD} (h:PN lo b g nm N V W x s w) (hN:aK N) (hr:Rd lo w' b s') (hg:w.grownBy w' (some b)) (hs:lL s s'):PN lo b g nm N V W x s' w':=by
 obtain ⟨h0,⟨vv,vr,vg,aZ⟩,hl,gD,hn⟩:=h
 have:=hs.len
 exact ⟨h0,⟨vv,vr,vg,aZ.read hN hr hg⟩,⟨by omega,by omega,by omega⟩,hs.sm gD,by omega⟩
theorem dk {σ:Type}{I:σ→aD→World→Prop}{Er:World→Prop}{lo b:Nat}{x:σ}{s:aD}{w:World} (hr:Rd lo w b s) (he:∀w',w.grownBy w' (some b)→Er w'):mY (.func (.func 104) #[.pointer (some ⟨b,0,none⟩)] #[]) #[] w (IP I Er (dv x s)):=by
 refine ⟨_,_,_,rfl,Gm w,?_⟩
 refine (kE hr).mono ?_
 rintro e w' ⟨rfl,hb⟩
 exact ⟨rfl,he w' (aA b hb)⟩
theorem Vv {lo b g p1 pv:Nat}{nm:ByteArray}{N:(Nat→Prop)→World→Prop}{V W:World} (hN:aK N) (ri:∀P w,N P w→aP p1 #[.pointer (some ⟨b,0,none⟩)] 107 P w) (gJ:∀P w,N P w→aP pv #[.pointer (some ⟨b,0,none⟩)] 107 P w) (lr:∀P w,N P w→aP (pv+1) #[.pointer (some ⟨g,0,none⟩)] 170 P w) (hm:∀P w,N P w→ij (pv+2) (ld pv b) P w) :
  Ez (PN lo b g nm N V W) (Sv g b W) lo b (pv+2) (ld pv b) (.func (.func 128) #[] #[.pointer (some ⟨g,0,none⟩),.pointer (some ⟨p1,0,none⟩)]) B5 Kf:=by
 have her:∀x s w w',PN lo b g nm N V W x s w→w.grownBy w' (some b)→Sv g b W w':=by
  rintro x s w w' ⟨_,⟨vv,vr,vg,aZ⟩,_⟩ hg
  exact aZ.sv.trans (Sv.of hg (by have:=aZ.bx.lt;omega))
 refine ⟨fun x s w h=>?_,fun x s w s' w' h hr hg hs=>h.step hN hr hg hs,her,fun x s w h=>?_,fun k=>?_,fun k v f hv hf x s w h hk ht=>?_,fun x s w h=>?_⟩
 ·obtain ⟨_,⟨vv,vr,vg,aZ⟩,_⟩:=h
  exact aZ.rd
 ·obtain ⟨_,⟨vv,vr,vg,aZ⟩,_⟩:=h
  exact ⟨_,hm _ _ aZ.nx⟩
 ·unfold ld B5
  simp only[jt]
  by_cases q1:(k==⟨#[114,101,115,101,114,118,101,100]⟩)=true
  ·exact .inr ⟨_,_,_,_,by rw[if_pos q1],by rw[if_pos q1]⟩
  ·rw[if_neg q1,if_neg q1]
   by_cases q2:(k==⟨#[111,112,116,105,111,110]⟩)=true
   ·exact .inr ⟨_,_,_,_,by rw[if_pos q2],by rw[if_pos q2]⟩
   ·exact .inl ⟨by rw[if_neg q2],by rw[if_neg q2]⟩
 ·unfold ld at hv
  unfold B5 at hf
  simp only[jt] at hv
  have h0:=h
  obtain ⟨jC,⟨vv,vr,vg,aZ⟩,⟨l1,l2,l3⟩,gD,hn⟩:=h
  by_cases q1:(k==⟨#[114,101,115,101,114,118,101,100]⟩)=true
  ·rw[if_pos q1] at hv hf
   obtain rfl:=zC hv
   obtain rfl:=zC hf
   refine ⟨_,_,_,rfl,Cd w,?_⟩
   refine (K6 (pm:=pv+1) (pr:=pv) (rs:=x.res) (gs:=x.gone) (vr:=vr) (vg:=vg) aZ hN rfl rfl (bS aZ.rd.grown (by rw[hk];decide)) gD l2 l3 gJ lr).mono ?_
   intro e w' hr
   unfold Cm at hr
   unfold Og
   cases hq:je (-2147483648) 2147483647 true x.res x.gone s with
   |error y =>
    rw[hq] at hr
    exact hr
   |ok y =>
    rw[hq] at hr
    obtain ⟨he,⟨v1,v2,gS⟩,k1,k2,k3⟩:=hr
    have cw:=(BS hq).jA.len
    exact ⟨he,jC,⟨vv,v1,v2,gS⟩,⟨by simp only;omega,k1,k2⟩,k3,by omega⟩
  ·rw[if_neg q1] at hv hf
   by_cases q2:(k==⟨#[111,112,116,105,111,110]⟩)=true
   ·rw[if_pos q2] at hv hf
    obtain rfl:=zC hv
    obtain rfl:=zC hf
    exact dk aZ.rd (fun w' hg=>her x s w w' h0 hg)
   ·rw[if_neg q2] at hv
    cases hv
 ·have h0:=h
  obtain ⟨jC,⟨vv,vr,vg,aZ⟩,⟨l1,l2,l3⟩,gD,hn⟩:=h
  refine ⟨_,_,_,rfl,Gn w,?_⟩
  refine (Kd (pr:=p1) (bt:=24) (r:=gB s) (sl:=⟨94,2,vv,x.bL.length,xZ x.bL⟩) (N1:=fun a x _ _=>x=Pz a) aZ hN (fun _ _=>fun _ _ _ _ _ h=>h) rfl (Rn rfl rfl) (by simp only;omega) (fun P w hw c hc=>?_) (fun w' ll=>(I1 ll.ev ll.rd gD).mono fun e w2 h2=>h2.cr)).mono ?_
  ·simp only[List.mem_cons,List.not_mem_nil,or_false] at hc
   subst hc
   exact ri P w hw
  ·intro e w' hw
   unfold Kf
   rcases CP.plain Rx hw with ⟨y,hr,rfl,hs⟩|⟨a,s',y,hr,rfl,h2⟩
   ·rw[hr]
    exact ⟨rfl,hs⟩
   ·rw[hr]
    obtain ⟨h3,h4⟩:=D3 hr
    have h5:=h3.lt (h4 aZ.rd.grown)
    refine ⟨rfl,jC,⟨y,vr,vg,h2⟩,⟨?_,by simp only;omega,by simp only;omega⟩,h3.jA.sm gD,by omega⟩
    simp only[zK,List.length_singleton]
    omega
theorem TI:(Tryz.prog.info? 68).map (·.size)=some 4:=by kernel_rfl
theorem gV {w:World}{g:Nat}{a0 a1 a2 a3:Value}{t:TypeId} (h:w.heap[g]?=some (.cells #[a0,a1,a2,a3] t (0,0))):(w.cell? ⟨g,0,none⟩=some a0∧w.cell? ⟨g,1,none⟩=some a1∧w.cell? ⟨g,2,none⟩=some a2∧w.cell? ⟨g,3,none⟩=some a3)∧∀j,w.frozen? ⟨g,j,none⟩=false:=by
 refine ⟨⟨?_,?_,?_,?_⟩,fun j=>by simp[World.frozen?,h]⟩<;>rw[cell_of_row _ _ _ _ _ _ h]<;>rfl
def gp (w:World) (g:Nat) (a0 a1 a2 a3:Value):World:=(((w.setCell ⟨g,0,none⟩ a0).setCell ⟨g,1,none⟩ a1).setCell ⟨g,2,none⟩ a2).setCell ⟨g,3,none⟩ a3
theorem fW {w:World}{g:Nat}{b0 b1 b2 b3:Value}{t:TypeId} (h:w.heap[g]?=some (.cells #[b0,b1,b2,b3] t (0,0))) (a0 a1 a2 a3:Value):(gp w g a0 a1 a2 a3).heap[g]?=some (.cells #[a0,a1,a2,a3] t (0,0))∧w.grownBy (gp w g a0 a1 a2 a3) (some g):=by
 obtain ⟨h0,g0⟩:=aJ (j:=0) h a0
 obtain ⟨h1,g1⟩:=aJ (j:=1) h0 a1
 obtain ⟨h2,g2⟩:=aJ (j:=2) h1 a2
 obtain ⟨h3,g3⟩:=aJ (j:=3) h2 a3
 exact ⟨h3,((g0.trans g1).trans g2).trans g3⟩
theorem js {W0 W1 w:World}{g b:Nat} (h:W0.grownBy W1 (some b)) (k:Sv g b W1 w) (hl:W0.heap.size≤g):W0.grownBy w (some b):=⟨k.os.trans h.os,k.tape.trans h.tape,k.output.trans h.output,Nat.le_trans h.size k.size,fun i h1 h2=>(k.block i (by omega) (by simpa using h2)).trans (h.block i h1 h2)⟩
noncomputable def Ee:Code:=match Tryz.f103.body with
 |some (.seq _ (.seq _ (.seq _ (.seq _ t))))=>t
 |_=>.skip
noncomputable def Od (t:Code):Code:=match Tryz.f103.body with
 |some (.seq a (.seq b (.seq c (.seq d _))))=>.seq a (.seq b (.seq c (.seq d t)))
 |_=>.skip
theorem Oc:Tryz.f103.body=some (Od Ee):=rfl
noncomputable def RC:Code:=match Ee with
 |.seq _ t=>t
 |_=>.skip
noncomputable def Zz:Code:=match Ee with
 |.seq a _=>a
 |_=>.skip
theorem Ke:Ee=.seq Zz RC:=rfl
noncomputable def sR (x:En) (s:aD):Except (Int×Int) (En×aD):=if x.bL.length=0 then .error (cH s) else match bE s with
 |.error e=>.error e
 |.ok (_,s4)=>.ok (x,s4)
theorem Oe {lo b g p1 p2:Nat}{nm:ByteArray}{N:(Nat→Prop)→World→Prop}{V W0 W1 w:World}{x:En}{s:aD}{e0 e1 e2 e3:Value} (h:PN lo b g nm N V W1 x s w) (hN:aK N) (ri:∀P w,N P w→aP p1 #[.pointer (some ⟨b,0,none⟩)] 107 P w) (gJ:∀P w,N P w→aP p2 #[e0,e1,e2,e3] 68 P w)
  (gw:cZ s.here 4 ⟨#[125]⟩=true) (vH:W0.grownBy W1 (some b)) (dI:lo≤W0.heap.size∧W0.heap.size≤p2∧p2<g) {tm:Array Value} (bU:tm.size=25) (jD:IH tm [(1,.pointer (some ⟨p1,0,none⟩)),(2,.pointer (some ⟨p2,0,none⟩)),(3,.pointer (some ⟨g,0,none⟩))]) {R:Ending→World→Prop}
  (hR:∀e w,CR lo b NE W0 (sR x s) e w→R e w):RC.wp Tryz.prog (bodyPost Tryz.prog Tryz.f103 R) ⟨tm,[]⟩ w:=by
 have HR:=aj hR
 obtain ⟨jC,⟨vv,vr,vg,aZ⟩,hl,gD,hn⟩:=h
 obtain ⟨va,vc,hvv⟩:=bN (aZ.bx.own 0 _ rfl)
 obtain ⟨ra,rc,Ya⟩:=bN (aZ.bx.own 1 _ rfl)
 obtain ⟨ga,gc,Yc⟩:=bN (aZ.bx.own 2 _ rfl)
 simp only at hvv Ya Yc
 subst hvv Ya Yc
 obtain ⟨⟨b0,b1,b2,b3⟩,bf⟩:=gV aZ.bx.dJ
 have c1:w.cell? ⟨p1,0,none⟩=some (.pointer (some ⟨b,0,none⟩)):=by rw[cell_of_row _ _ _ _ _ _ (ri _ _ aZ.nx).1];rfl
 have HA:=aj aZ
 have HN:=aj hN
 have Wg:=aj ri
 have oB:=aj gJ
 have Wb:=aj gw
 have S':=aj vH
 have O0:=aj dI
 have Hnm:=aj jC
 have hlen:x.bL.length≤20000:=by omega
 obtain ⟨L,hL⟩:∃L,x.bL.length=L:=⟨_,rfl⟩
 have HL:=aj hL
 rw[hL] at b1 hlen
 obtain ⟨u,rfl⟩:=BV bU
 obtain ⟨f1,f2,f3,_⟩:=jD
 replace f1:u 1=.pointer (some ⟨p1,0,none⟩):=zC f1
 replace f2:u 2=.pointer (some ⟨p2,0,none⟩):=zC f2
 replace f3:u 3=.pointer (some ⟨g,0,none⟩):=zC f3
 rw[f1,f2,f3]
 clear f1 f2 f3 bU hR aZ hN ri gJ gw vH dI hl gD hn jC hL bf
 obtain ⟨Q,hQ⟩:∃Q,bodyPost Tryz.prog Tryz.f103 R=Q:=⟨_,rfl⟩
 rw[hQ]
 unfold RC Ee
 dsimp only[Tryz.f103]
 have YW:∀y w',sR x s=.error y→w.grownBy w' (some b)→R (pI y.1 y.2) w':=fun y w' hy hg=>aa HR _ _ (by rw[hy];exact ⟨rfl,js (aa S') ((aa HA).sv.trans (Sv.of hg (by have:=(aa HA).bx.lt;omega))) (by have:=aa O0;omega)⟩)
 have V':=aj YW
 clear YW
 by_cases hz:L=0
 ·subst hz
  have HW:=aj (iM (aa HA).rd)
  go_wp2_with fail
  refine (aa HW).mono ?_
  rintro e w2 ⟨rfl,bJ⟩
  rw[←hQ]
  refine ⟨rfl,aa V' (cH s) w2 ?_ (aA b bJ)⟩
  unfold sR
  rw[if_pos (aa HL)]
 ·have pQ:((L:Int)==0)=false:=beq_eq_false_iff_ne.2 (by omega)
  have HC:=aj (dr (aa HA).rd (bS (aa HA).rd.grown (by rw[rH (aa Wb)];decide)))
  have HEq:Hid (sR x s=match bE s with|.error e=>.error e|.ok (_,s4)=>.ok (x,s4)):=by
   show _=_
   unfold sR
   rw[if_neg (by rw[aa HL];exact hz)]
  clear hz
  go_wp2_with fail
  refine (aa HC).mono ?_
  intro e w2 hw
  rcases hw.split with ⟨y,hr,rfl,hg⟩|⟨_,s4,hr,rfl,h4,hg⟩
  ·rw[←hQ]
   refine ⟨rfl,aa V' y w2 ?_ hg⟩
   rw[aa HEq,hr]
  ·have xU:=(aa HA).read (aa HN) h4 hg
   obtain ⟨⟨d0,d1,d2,d3⟩,_⟩:=gV xU.bx.dJ
   obtain ⟨⟨y0,y1,y2,y3⟩,yf⟩:=gV (aa oB _ _ xU.nx).1
   have f0:=yf 0
   have f1:=yf 1
   have f2:=yf 2
   have f3:=yf 3
   obtain ⟨r1,r2⟩:=fW (aa oB _ _ xU.nx).1 (.string nm) (.slice va x.bL.length vc) (.slice ra x.res.length rc) (.slice ga x.gone.length gc)
   have cP:∀(i:Nat) (sl:Slot),(ESl x (.slice va x.bL.length vc) (.slice ra x.res.length rc) (.slice ga x.gone.length gc))[i]?=some sl→fm (fun k=>W0.heap.size≤k) (gp w2 p2 (.string nm) (.slice va x.bL.length vc) (.slice ra x.res.length rc) (.slice ga x.gone.length gc)) sl.t sl.sz sl.v sl.n sl.xs:=fun i sl hi=>by
    have h1:=xU.bx.own i sl hi
    have h2:=aa O0
    refine ⟨jZ (World.ownsRow.kept h1 r2 ?_) (Nat.zero_le _),fun k hk=>?_⟩
    ·right
     intro e
     have:=(h1.lt p2 e).1
     omega
    ·have:=(h1.lt k hk).1
     omega
   have HE:Hid (R (.returned (.agg #[.string nm,.slice va x.bL.length vc,.slice ra x.res.length rc,.slice ga x.gone.length gc])) (gp w2 p2 (.string nm) (.slice va x.bL.length vc) (.slice ra x.res.length rc) (.slice ga x.gone.length gc))):=by
    refine aa HR _ _ ?_
    rw[aa HEq,hr]
    refine ⟨_,rfl,⟨_,rfl,?_⟩,gP h4 r2 (by have:=aa O0;omega),dp (js (aa S') xU.sv (by have:=aa O0;omega)) r2 (by have:=aa O0;omega)⟩
    have kK:=aa Hnm
    rw[←kK] at cP ⊢
    exact .cons (cP 0 _ rfl) (cP 1 _ rfl) (cP 2 _ rfl) .nil
   have R1:=aj r1
   have c14:w2.cell? ⟨p1,0,none⟩=some (.pointer (some ⟨b,0,none⟩)):=by rw[cell_of_row _ _ _ _ _ _ (aa Wg _ _ xU.nx).1];rfl
   unfold gp at HE R1
   clear hw hr h4 hg xU yf r1 r2 cP HC HEq V' c1 b0 b1 b2 b3
   go_wp2
   rw[←hQ]
   exact bodyPost_ret (results_cell_row rfl _ _ p2 68 #[.string nm,.slice va x.bL.length vc,.slice ra x.res.length rc,.slice ga x.gone.length gc] (0,0) _ rfl (aa R1) Tryz.underlying68 rfl TI) rfl (aa HE)
end Go.Proofs.YtmlphohdcejniaaGreatDoor

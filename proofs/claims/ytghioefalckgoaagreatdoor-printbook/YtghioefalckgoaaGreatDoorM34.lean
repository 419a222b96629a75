import Derived.Test.YtghioefalckgoaaGreatDoorM33
import Derived.Shelf.Pu.Clone
set_option maxHeartbeats 2000000
set_option maxRecDepth 100000
namespace Go.Proofs
open Go.Shelf
def Tryz.yK:Go.Shelf.Ren:=⟨fun|25=>70|n=>n,fun|9=>9|3=>3|4=>4|37=>137|0=>0|47=>165|5=>5|n=>n,fun|n=>n⟩
theorem Tryz.Jg:Go.Proofs.LaysPu.n25 Tryz.prog Tryz.yK:={
 mixed:=by kernel_rfl
 f25:=Tryz.func70.trans (congrArg some (by kernel_rfl))
 t0:=Tryz.underlying0
 a0:=Tryz.isAgg0
 z0:=Tryz.sizeOf0
 v0:=Tryz.zeroValue0
 i0:=by kernel_rfl
 t3:=Tryz.underlying3
 a3:=Tryz.isAgg3
 z3:=Tryz.sizeOf3
 v3:=Tryz.zeroValue3
 i3:=by kernel_rfl
 t4:=Tryz.underlying4
 a4:=Tryz.isAgg4
 z4:=Tryz.sizeOf4
 v4:=Tryz.zeroValue4
 i4:=by kernel_rfl
 t5:=Tryz.underlying5
 a5:=Tryz.isAgg5
 z5:=Tryz.sizeOf5
 v5:=Tryz.zeroValue5
 i5:=by kernel_rfl
 t9:=Tryz.underlying9
 a9:=Tryz.isAgg9
 z9:=Tryz.sizeOf9
 v9:=Tryz.zeroValue9
 i9:=by kernel_rfl
 t37:=Tryz.underlying137
 a37:=Tryz.isAgg137
 z37:=Tryz.sizeOf137
 v37:=Tryz.zeroValue137
 i37:=by kernel_rfl
 t47:=Tryz.underlying165
 a47:=Tryz.isAgg165
 z47:=Tryz.sizeOf165
 v47:=Tryz.zeroValue165
 i47:=by kernel_rfl }
end Go.Proofs
namespace Go.Proofs.YtghioefalckgoaaGreatDoor
open Go.RowKit
attribute [local go_sem ↓] Go.wp_at_zero Go.wp_at_succ
theorem Dg (W:World) (s:ByteArray) (h:s.size≤281474976710656):Calls Tryz.prog 70 #[.string s] W fun e w=>e=.returned (.string s)∧Below W.heap.size W w:=AnyPu.stringslite_Clone Tryz.Jg s W h
theorem eh (W:World) (s:ByteArray) (h:s.size≤281474976710656):Calls Tryz.prog 45 #[.string s] W fun e w=>e=.returned (.string s)∧Below W.heap.size W w:=by
 go_enter Tryz.func45,Tryz.ntmps45
 go_wp2_with fail
 refine (Dg W s h).mono ?_
 rintro e w ⟨rfl,hb⟩
 have Hb:=ak hb
 clear hb
 go_wp2
 go_ret
 exact ⟨rfl,ab Hb⟩
def KW (n0:Nat) (w:World) (e:Ending):List Tok ⊕ (Nat×Nat)→Prop
 |.inl ts=>∃v,e=.returned (.tuple #[v,.int .i64 0,.int .i64 0])∧w.ownsRow n0 154 3 v ts.length (eD ts)
 |.inr (k,c)=>c≠0∧e=.returned (.tuple #[.slice none 0 0,.int .i64 (k:Int),.int .i64 (c:Int)])
def Od (s:ByteArray) (W:World) (e:Ending) (w:World):Prop:=Below W.heap.size W w∧KW W.heap.size w e (ny s)
theorem EL {s:ByteArray} (h:65536<s.size):ny s=.inr (0,2):=by unfold ny;rw[if_pos h]
theorem Ii {s:ByteArray} (h:¬65536<s.size) (h2:0≤dH s 0):ny s=.inr ((dH s 0).toNat,44):=by unfold ny;rw[if_neg h,if_pos h2]
theorem Ma {s:ByteArray} (h:¬65536<s.size) (h2:¬0≤dH s 0):ny s=tk s 0 0:=by unfold ny;rw[if_neg h,if_neg h2]
theorem B8 {W:World} (hF:jS W) (hE:ji W) (hM:gj W) (s:ByteArray):Calls Tryz.prog 32 #[.string s] W (Od s W):=by
 have bq:=zE W.heap.size W
 by_cases h0:65536<s.size
 ·have Hr:=ak (EL h0)
  have e0:=ltT (a:=s.size) (k:=65536) (by omega)
  clear h0
  go_enter Tryz.func32,Tryz.ntmps32
  go_wp2
  go_ret3
  exact ⟨bq,by rw[ab Hr];exact ⟨by decide,rfl⟩⟩
 ·have e0:=ltF (a:=s.size) (k:=65536) (by omega)
  have hs:s.size≤65536:=by omega
  have H0:=ak h0
  clear h0
  go_enter Tryz.func32,Tryz.ntmps32
  go_wp2_with fail
  refine (Ab hF s (by omega)).mono ?_
  rintro e w1 ⟨rfl,aY⟩
  have xb:=ak aY
  clear aY bq
  by_cases h1:0≤dH s 0
  ·have Hr:=ak (Ii (ab H0) h1)
   obtain ⟨u,hu⟩:∃u:Nat,dH s 0=(u:Int):=⟨(dH s 0).toNat,by omega⟩
   rw[hu] at Hr ⊢
   have e1:decide (0≤(u:Int))=true:=by simp
   clear hu h1
   go_wp2
   go_ret3
   exact ⟨ab xb,by rw[ab Hr];exact ⟨by decide,rfl⟩⟩
  ·have Hr:=ak (Ma (ab H0) h1)
   obtain ⟨u,hu⟩:∃u,u=dH s 0:=⟨_,rfl⟩
   rw[←hu] at h1 ⊢
   have e1:decide (0≤u)=false:=by simp;omega
   have HE:=ak hE
   have HM:=ak hM
   clear hu h1 hE hM
   go_wp2_with fail
   refine (eh w1 s (by omega)).mono ?_
   rintro e w2 ⟨rfl,b9⟩
   have zX:Hid (Below W.heap.size W w2):=(ab xb).trans (b9.mono (ab xb).size)
   clear b9
   go_wp2_with fail
   have hr:=Mz (W0:=W) (W:=w2.alloc (.cells #[.string s,.int .i64 0,.slice none 0 0] 106)) (b:=w2.heap.size) (s:=s) (ab HE) (ab HM) ((ab zX).alloc (ab zX).size _) (ab zX).size (aE w2 _) hs
   have Yr:=ak (zJ w2 (.cells #[.string s,.int .i64 0,.slice none 0 0] 106))
   have wH:Hid (Below W.heap.size W (w2.alloc (.cells #[.string s,.int .i64 0,.slice none 0 0] 106))):=(ab zX).alloc (ab zX).size _
   have hle:=(ab zX).size
   have hb:∃b,w2.heap.size=b:=⟨_,rfl⟩
   obtain ⟨b,hb⟩:=hb
   rw[hb] at hr Yr hle ⊢
   generalize w2.alloc (.cells #[.string s,.int .i64 0,.slice none 0 0] 106)=V at *
   clear hb zX
   refine hr.mono ?_
   rintro e w3 ⟨hx,hq⟩
   have VY:Below W.heap.size W w3:=(ab wH).trans (hx.below hle (ab wH).size)
   have lG:=ak VY
   have hVs:V.heap.size=b+1:=ab Yr
   cases ht:tk s 0 0 with
   |inl ts =>
    rw[ht] at hq
    obtain ⟨rfl,k,v',h1,h2⟩:=hq
    have c2:=h1.c2
    have Dl:Hid (KW W.heap.size w3 (.returned (.tuple #[v',.int .i64 0,.int .i64 0])) (ny s)):=by
     show KW _ _ _ _
     rw[ab Hr,ht]
     exact ⟨v',rfl,DO h2 (by omega)⟩
    obtain ⟨va,vc,rfl⟩:=AF h2
    clear h1 h2 hx VY ht Hr hr
    go_wp2
    go_ret3
    exact ⟨ab lG,ab Dl⟩
   |inr p =>
    obtain ⟨k,c⟩:=p
    rw[ht] at hq
    obtain ⟨hc,rfl,v',h1⟩:=hq
    have c1:=h1.c1
    have Dl:Hid (KW W.heap.size w3 (.returned (.tuple #[.slice none 0 0,.int .i64 (k:Int),.int .i64 (c:Int)])) (ny s)):=by
     show KW _ _ _ _
     rw[ab Hr,ht]
     exact ⟨hc,rfl⟩
    have q9:((c:Int) != 0)=true:=by simp;omega
    clear h1 hx VY ht Hr hr hc
    go_wp2
    go_quiet (fail)
    go_wp2
    go_ret3
    exact ⟨below_drewN (ab lG) _,ab Dl⟩
theorem Ag (W:World) (s:ByteArray):Calls Tryz.prog 73 #[.string s] W fun e w=>e=.returned (.string s)∧Below W.heap.size W w:=by
 go_enter Tryz.func73,Tryz.ntmps73
 go_wp2
 go_ret
 exact ⟨rfl,zE _ _⟩
def nJ:List Value→ByteArray
 |.string s::_=>s
 |_=>⟨#[]⟩
theorem gZ {W:World}{v:Value}{l:List ByteArray} (hv:Rl W v l.length (bj l)) (hl:l.length≤4096) (hs:∀s ∈ l,nZ s) (w0:World) (hw:Below W.heap.size W w0) :
  Calls Tryz.prog 46 #[v] w0 fun e w=>∃u,e=.returned u∧w.ownsRow w0.heap.size 9 1 u l.length (bj (lV l))∧Below w0.heap.size w0 w:=by
 have gR:=DE l
 have hL:(l.map qW).length=l.length:=List.length_map ..
 have HE:=ak (vJ .S (L:=l.map qW) (f:=45) (fs:=#[]) (cp:=#[]) (G:=fun i y B _=>∃s,l[i]?=some s∧y=qW s∧B=[]) (by rw[←gR];exact hv) hL (fun x hx=>by obtain ⟨s,_,rfl⟩:=List.mem_map.1 hx;exact ⟨s,rfl⟩) (by show l.length*16≤_;omega)
  (fun _ _ _ _ _ _ h _ _=>h) (fun vs w=>by kernel_rfl) w0 hw (fun i x hx w _=>by
   rw[List.getElem?_map] at hx
   obtain ⟨s,pA,rfl⟩:=Option.map_eq_some_iff.1 hx
   refine (eh w s (hs s (List.mem_of_getElem? pA))).mono ?_
   rintro e w' ⟨rfl,hb⟩
   exact ⟨qW s,[],rfl,⟨⟨s,rfl⟩,⟨s,pA,rfl,rfl⟩,lK.nil,hb⟩⟩))
 have HS:Hid (∀(w1:World) (u:Value) (T:List (List Value×List Nat)),BW .S (fun i y B _=>∃s,l[i]?=some s∧y=qW s∧B=[]) w0 w1 u l.length T→Calls Tryz.prog 71 #[u,.func (.func 73) #[] #[]] w1 fun e w=>∃u',e=.returned u'∧w.ownsRow w1.heap.size 9 1 u' l.length (bj (lV l))∧Below w1.heap.size w1 w):=by
  intro w1 u T hT
  have e1:T.map (·.1)=l.map qW:=Bp hT.len (fun i p hp=>by obtain ⟨s,h1,h2,_⟩:=hT.is i p hp;exact ⟨s,h1,h2⟩)
  have hr:=hT.row
  rw[e1] at hr
  refine (dK .S (L:=l.map qW) (kv:=.S nJ) (Pe:=fun x=>∃s,x=qW s) (f:=73) (fs:=#[]) (cp:=#[]) (kj hr (by omega)) hL (fun x hx=>by obtain ⟨s,_,rfl⟩:=List.mem_map.1 hx;rfl) (fun x hx=>by obtain ⟨s,_,rfl⟩:=List.mem_map.1 hx;simp[qW,Value.oneCell'])
   (by show l.length*16≤_;omega) rfl (fun x hx=>by obtain ⟨s,rfl⟩:=hx;exact ⟨rfl,by simp[qW,Value.oneCell']⟩) (fun x hx=>by obtain ⟨s,_,rfl⟩:=List.mem_map.1 hx;exact ⟨s,rfl⟩) w1 (zE _ _)
   ⟨fun vs w=>by kernel_rfl,fun x w' _ hx=>by obtain ⟨s,rfl⟩:=hx;exact Ag w' s⟩).mono ?_
  rintro e w ⟨u',rfl,h2,h3⟩
  refine ⟨u',rfl,?_,h3⟩
  rw[jV] at h2
  rw[DE]
  exact h2
 obtain ⟨a,c,rfl,-,-⟩:=hv
 clear gR hL hs hw
 go_enter Tryz.func46,Tryz.ntmps46
 go_wp2_with fail
 refine (ab HE).mono ?_
 rintro e w1 ⟨u,T,rfl,hT⟩
 have HK:=ak (ab HS w1 u T hT)
 obtain ⟨a1,n1,c1,rfl⟩:=fP hT.row
 have HB:=ak hT.bh
 clear hT HS HE
 go_wp2_with fail
 refine (ab HK).mono ?_
 rintro e w2 ⟨u',rfl,h2,h3⟩
 have H2:=ak (kk h2 (ab HB).size)
 have H3:=ak ((ab HB).trans (h3.mono (ab HB).size))
 clear h2 h3 HK HB
 go_wp2
 go_ret
 exact ⟨_,rfl,ab H2,ab H3⟩
theorem nD {P:Program}{fn:Func}{p q:Tmp}{ty:TypeId} (h:fn.results=#[.cell p ty,.tmp q]) (tmps:Array Value) (w:World) (g:Nat) (t:TypeId) (cs:Array Value) (fr:Nat×Nat) (d:TypeDesc)
  (hp:tmps.getD p undef=.pointer (some ⟨g,0,none⟩)) (hg:w.heap[g]?=some (.cells cs t fr)) (hu:P.underlying ty=some d) (hd:(match d with|.struct _|.array _ _=>true|_=>false)=true) (hi:(P.info? ty).map (·.size)=some cs.size) :
  (results fn tmps).run P w=.ok (.tuple #[.agg cs,tmps.getD q undef]) w:=by
 have pB:tmps[p]?.getD undef=.pointer (some ⟨g,0,none⟩):=by simpa using hp
 simp[results,h,pB,asAddr,run_loadVar_row w g t ty cs fr d hg hu hd hi]
theorem AH (W:World) (p:Int×Int):Calls Tryz.prog 199 #[.agg #[.int .i64 p.1,.int .i64 p.2]] W fun e w=>e=.returned (.int .i64 p.2)∧Below W.heap.size W w:=by
 have k0:=aE W (.cells #[.int .i64 p.1,.int .i64 p.2] 83)
 have HB:=ak ((zE W.heap.size W).alloc (zD _) (.cells #[.int .i64 p.1,.int .i64 p.2] 83))
 obtain ⟨V,hV⟩:∃V,W.alloc (.cells #[.int .i64 p.1,.int .i64 p.2] 83)=V:=⟨_,rfl⟩
 rw[hV] at k0 HB
 have c1:V.cell? ⟨W.heap.size,1,none⟩=some (.int .i64 p.2):=cell_of_row _ _ _ _ _ _ k0
 clear k0
 go_enter Tryz.func199,Tryz.ntmps199
 go_wp2
 go_ret
 exact ⟨rfl,ab HB⟩
theorem AG (W:World) (p:Int×Int):Calls Tryz.prog 200 #[.agg #[.int .i64 p.1,.int .i64 p.2]] W fun e w=>e=.returned (.int .i64 p.1)∧Below W.heap.size W w:=by
 have k0:=aE W (.cells #[.int .i64 p.1,.int .i64 p.2] 83)
 have HB:=ak ((zE W.heap.size W).alloc (zD _) (.cells #[.int .i64 p.1,.int .i64 p.2] 83))
 obtain ⟨V,hV⟩:∃V,W.alloc (.cells #[.int .i64 p.1,.int .i64 p.2] 83)=V:=⟨_,rfl⟩
 rw[hV] at k0 HB
 have c1:V.cell? ⟨W.heap.size,0,none⟩=some (.int .i64 p.1):=cell_of_row _ _ _ _ _ _ k0
 clear k0
 go_enter Tryz.func200,Tryz.ntmps200
 go_wp2
 go_ret
 exact ⟨rfl,ab HB⟩
def UN:List Value→Int
 |[.int _ a,.int _ _]=>a
 |_=>0
def UM:List Value→Int
 |[.int _ _,.int _ b]=>b
 |_=>0
theorem mV {W:World}{v:Value}{l:List (Int×Int)} (hv:Rl W v l.length (eP l)) (hl:l.length≤4096) (kv:KV) (hk:kv=.I UN∨kv=.I UM) (f:FuncId) (hf:∀vs w,(callFunc f vs).run Tryz.prog w=.ok (.enter f vs) w) (hs:∀(p:Int×Int) (w:World),Calls Tryz.prog f #[.agg #[.int .i64 p.1,.int .i64 p.2]] w fun e w'=>e=.returned (kv.val (MA p))∧Below w.heap.size w w') (w0:World) (hw:Below W.heap.size W w0) :
  Calls Tryz.prog 198 #[v,.func (.func f) #[] #[]] w0 fun e w=>∃u,e=.returned u∧w.ownsRow w0.heap.size 83 2 u l.length (eP (cR (fun a b=>kv.lt (MA a) (MA b)) l))∧Below w0.heap.size w0 w:=by
 have gR:=IL l
 refine (dK .R (L:=l.map MA) (kv:=kv) (Pe:=fun x=>∃s,x=MA s) (f:=f) (fs:=#[]) (cp:=#[]) (by rw[←gR];exact hv) (List.length_map ..) (fun x hx=>by obtain ⟨s,_,rfl⟩:=List.mem_map.1 hx;rfl) (fun x hx=>by obtain ⟨s,_,rfl⟩:=List.mem_map.1 hx;simp[MA,Value.oneCell'])
  (by show l.length*16≤_;omega) (by rcases hk with rfl|rfl<;>rfl) (fun x hx=>by obtain ⟨s,rfl⟩:=hx;exact ⟨rfl,by simp[MA,Value.oneCell']⟩) (fun x hx=>by obtain ⟨s,_,rfl⟩:=List.mem_map.1 hx;exact ⟨s,rfl⟩) w0 hw
  ⟨hf,fun x w' _ hx=>by obtain ⟨s,rfl⟩:=hx;exact hs s w'⟩).mono ?_
 rintro e w ⟨u',rfl,h2,h3⟩
 refine ⟨u',rfl,?_,h3⟩
 rw[jV] at h2
 rw[IL]
 exact h2
theorem AI (W:World) (a b:Int×Int) (ha:K7 a):Calls Tryz.prog 202 #[.agg #[.int .i64 a.1,.int .i64 a.2],.agg #[.int .i64 b.1,.int .i64 b.2]] W fun e w=>e=.returned (.tuple #[.agg #[.int .i64 a.1,.int .i64 b.2],.bool (decide (b.1=a.2+1))])∧Below W.heap.size W w:=by
 have wp:IntKind.i64.wrap (a.2+1)=a.2+1:=by unfold K7 at ha;rw[IntKind.wrap_i64];omega
 have hq:((b.1:Int)==a.2+1)=decide (b.1=a.2+1):=by by_cases h:b.1=a.2+1<;>simp[h]
 have n0:=aE W (.cells #[.int .i64 a.1,.int .i64 a.2] 83)
 have n1:=aE (W.alloc (.cells #[.int .i64 a.1,.int .i64 a.2] 83)) (.cells #[.int .i64 b.1,.int .i64 b.2] 83)
 have n2:=aE ((W.alloc (.cells #[.int .i64 a.1,.int .i64 a.2] 83)).alloc (.cells #[.int .i64 b.1,.int .i64 b.2] 83)) (.cells #[.int .i64 0,.int .i64 0] 83)
 have b0:=World.grownBy_alloc W (.cells #[.int .i64 a.1,.int .i64 a.2] 83) none
 have b1:=World.grownBy_alloc (W.alloc (.cells #[.int .i64 a.1,.int .i64 a.2] 83)) (.cells #[.int .i64 b.1,.int .i64 b.2] 83) none
 have b2:=World.grownBy_alloc ((W.alloc (.cells #[.int .i64 a.1,.int .i64 a.2] 83)).alloc (.cells #[.int .i64 b.1,.int .i64 b.2] 83)) (.cells #[.int .i64 0,.int .i64 0] 83) none
 have e1:(W.alloc (.cells #[.int .i64 a.1,.int .i64 a.2] 83)).heap.size=W.heap.size+1:=zJ _ _
 have e2:((W.alloc (.cells #[.int .i64 a.1,.int .i64 a.2] 83)).alloc (.cells #[.int .i64 b.1,.int .i64 b.2] 83)).heap.size=W.heap.size+2:=by rw[zJ,e1]
 rw[e1] at n1
 rw[e2] at n2
 have hT:(fun w:World=>Below W.heap.size W w∧w.heap[W.heap.size]?=some (.cells #[.int .i64 a.1,.int .i64 a.2] 83 (0,0))∧w.heap[W.heap.size+1]?=some (.cells #[.int .i64 b.1,.int .i64 b.2] 83 (0,0))∧∃x y:Int,w.heap[W.heap.size+2]?=some (.cells #[.int .i64 x,.int .i64 y] 83 (0,0))) ((((W.alloc (.cells #[.int .i64 a.1,.int .i64 a.2] 83)).alloc (.cells #[.int .i64 b.1,.int .i64 b.2] 83)).alloc (.cells #[.int .i64 0,.int .i64 0] 83)).drew):=⟨(jK ((b0.trans b1).trans b2)).drew,(b2.block _ (by rw[e2];omega) (by simp)).trans ((b1.block _ (by rw[e1];omega) (by simp)).trans n0),(b2.block _ (by rw[e2];omega) (by simp)).trans n1,0,0,n2⟩
 clear n0 n1 n2 b0 b1 b2 e1 e2
 go_enter Tryz.func202,Tryz.ntmps202
 go_upto_region 1 with fail
 refine wp_region_any (by kernel_rfl) (aV (z:=99) (T:=fun w:World=>Below W.heap.size W w∧w.heap[W.heap.size]?=some (.cells #[.int .i64 a.1,.int .i64 a.2] 83 (0,0))∧w.heap[W.heap.size+1]?=some (.cells #[.int .i64 b.1,.int .i64 b.2] 83 (0,0))∧∃x y:Int,w.heap[W.heap.size+2]?=some (.cells #[.int .i64 x,.int .i64 y] 83 (0,0))) _ _ _ _ ?_)
 try (change ba _ _ _ _ _ _ _ _ _ (World.drew _))
 refine o4 (P:=fun w:World=>Below W.heap.size W w∧w.heap[W.heap.size]?=some (.cells #[.int .i64 a.1,.int .i64 a.2] 83 (0,0))∧w.heap[W.heap.size+1]?=some (.cells #[.int .i64 b.1,.int .i64 b.2] 83 (0,0))∧∃x y:Int,w.heap[W.heap.size+2]?=some (.cells #[.int .i64 x,.int .i64 y] 83 (0,0))) (G:=fun w=>ba _ _ _ _ _ _ _ _ _ w) hT (fun wd hT=>?_)
 refine aw 0 (.pointer (some ⟨W.heap.size,0,none⟩)) 6 rfl rfl (Or.inl ⟨by rfl,fun w hw=>by go_simp⟩) hT ?_
 simp only[Act.put,zL,zM,zN]
 refine aw 1 (.int .i64 a.1) 7 rfl rfl (Or.inl ⟨by rfl,fun w hw=>by have c:w.cell? ⟨W.heap.size,0,none⟩=some (.int .i64 a.1):=cell_of_row _ _ _ _ _ _ hw.2.1;go_simp⟩) hT ?_
 simp only[Act.put,zL,zM,zN]
 refine aw 2 (.pointer (some ⟨W.heap.size+1,1,none⟩)) 8 rfl rfl (Or.inl ⟨by rfl,fun w hw=>by go_simp⟩) hT ?_
 simp only[Act.put,zL,zM,zN]
 refine aw 3 (.int .i64 b.2) 9 rfl rfl (Or.inl ⟨by rfl,fun w hw=>by have c:w.cell? ⟨W.heap.size+1,1,none⟩=some (.int .i64 b.2):=cell_of_row _ _ _ _ _ _ hw.2.2.1;go_simp⟩) hT ?_
 simp only[Act.put,zL,zM,zN]
 refine aw 4 (.agg #[.int .i64 a.1,.int .i64 b.2]) 10 rfl rfl (Or.inl ⟨by rfl,fun w hw=>by go_simp⟩) hT ?_
 simp only[Act.put,zL,zM,zN]
 refine aw 5 (.pointer (some ⟨W.heap.size+1,0,none⟩)) 11 rfl rfl (Or.inl ⟨by rfl,fun w hw=>by go_simp⟩) hT ?_
 simp only[Act.put,zL,zM,zN]
 refine aw 6 (.int .i64 b.1) 12 rfl rfl (Or.inl ⟨by rfl,fun w hw=>by have c:w.cell? ⟨W.heap.size+1,0,none⟩=some (.int .i64 b.1):=cell_of_row _ _ _ _ _ _ hw.2.2.1;go_simp⟩) hT ?_
 simp only[Act.put,zL,zM,zN]
 refine aw 7 (.pointer (some ⟨W.heap.size,1,none⟩)) 13 rfl rfl (Or.inl ⟨by rfl,fun w hw=>by go_simp⟩) hT ?_
 simp only[Act.put,zL,zM,zN]
 refine aw 8 (.int .i64 a.2) 14 rfl rfl (Or.inl ⟨by rfl,fun w hw=>by have c:w.cell? ⟨W.heap.size,1,none⟩=some (.int .i64 a.2):=cell_of_row _ _ _ _ _ _ hw.2.1;go_simp⟩) hT ?_
 simp only[Act.put,zL,zM,zN]
 refine aw 9 (.int .i64 (a.2+1)) 15 rfl rfl (Or.inl ⟨by rfl,fun w hw=>by go_simp⟩) hT ?_
 simp only[Act.put,zL,zM,zN]
 refine aw 10 (.bool (decide (b.1=a.2+1))) 16 rfl rfl (Or.inl ⟨by rfl,fun w hw=>by go_simp⟩) hT ?_
 simp only[Act.put,zL,zM,zN]
 refine aB 11 (by kernel_rfl) rfl (fun K hK=>?_)
 obtain ⟨t0,t1,t2,x,y,h3⟩:=hT
 have z:∀j,wd.frozen? ⟨W.heap.size+2,j,none⟩=false:=fun j=>by simp[World.frozen?,h3]
 have z0:=z 0
 have z1:=z 1
 clear z
 obtain ⟨q0,g0⟩:=aI (j:=0) h3 (.int .i64 a.1)
 obtain ⟨q1,g1⟩:=aI (j:=1) q0 (.int .i64 b.2)
 have gg:=g0.trans g1
 have be:=t0.grown gg t0.size (fun k e=>by obtain rfl:=zC e;omega)
 have l1:=(zA t1).1
 have l2:=(zA t2).1
 have bL:(fun w:World=>Below W.heap.size W w∧w.heap[W.heap.size]?=some (.cells #[.int .i64 a.1,.int .i64 a.2] 83 (0,0))∧w.heap[W.heap.size+1]?=some (.cells #[.int .i64 b.1,.int .i64 b.2] 83 (0,0))∧∃x y:Int,w.heap[W.heap.size+2]?=some (.cells #[.int .i64 x,.int .i64 y] 83 (0,0))) ((wd.setCell ⟨W.heap.size+2,0,none⟩ (.int .i64 a.1)).setCell ⟨W.heap.size+2,1,none⟩ (.int .i64 b.2)):=⟨be,(gg.block _ l1 (by simp)).trans t1,(gg.block _ l2 (by simp)).trans t2,a.1,b.2,q1⟩
 have c0:wd.cell? ⟨W.heap.size+2,0,none⟩=some (.int .i64 x):=cell_of_row _ _ _ _ _ _ h3
 have c1:wd.cell? ⟨W.heap.size+2,1,none⟩=some (.int .i64 y):=cell_of_row _ _ _ _ _ _ h3
 have BE:=ak be
 have Q3:=ak q1
 have n8:=ak bL
 clear t0 t1 t2 h3 l1 l2 bL q0 q1 g0 g1 gg be
 go_simp
 refine hK _ _ ⟨fun _=>ab n8,?_⟩
 clear hK K c0 c1 z0 z1
 have hT:=ab n8
 try simp only[Act.put,zL,zM,zN]
 refine aw 12 (.bool (decide (b.1=a.2+1))) 5 rfl rfl (Or.inl ⟨by rfl,fun w hw=>by go_simp⟩) hT ?_
 simp only[Act.put,zL,zM,zN]
 refine aQ (by kernel_rfl) ?_
 clear hT n8
 go_wp2
 refine bodyPost_ret (nD rfl _ _ (W.heap.size+2) 83 _ (0,0) _ rfl (ab Q3) Tryz.underlying83 rfl (by kernel_rfl)) rfl ?_
 exact ⟨rfl,ab BE⟩
noncomputable def fz (F:Fl):ByteArray×Int:=if (jG F).isSome then (match ny (zS (gu F)) with
  |.inl _=>(zS (gu F),0)
  |.inr _=>(⟨#[]⟩,2))
 else (⟨#[]⟩,60)
theorem Af {W:World}{v vi vm ve:Value}{F:Fl}{cm ce:List Value} (hM:gj W) (hE:ji W) (hP:gG W) (hF:jS W) (vC:zy W v F vi vm ve cm ce) (iL:∀m ∈ F.ms,wm 32 m) :
  Calls Tryz.prog 15 #[v] W fun e w=>e=.returned (.tuple #[.string (fz F).1,.int .i64 (fz F).2])∧Below W.heap.size W w:=by
 have bq:Below W.heap.size W (W.alloc (.cells #[.string F.dj,vi,vm,ve] 26)):=(zE _ _).alloc (zD _) _
 have k0:=aE W (.cells #[.string F.dj,vi,vm,ve] 26)
 obtain ⟨V,hV⟩:∃V,W.alloc (.cells #[.string F.dj,vi,vm,ve] 26)=V:=⟨_,rfl⟩
 rw[hV] at bq k0
 have HR:=ak (wM (hM.up bq hM.1) (vC.up bq) iL)
 have hv:=vC.is
 subst hv
 have HW:Hid ((jG F).isSome=true→∀w1,Below V.heap.size V w1→Calls Tryz.prog 31 #[.agg #[.string F.dj,vi,vm,ve]] w1 fun e w=>e=.returned (.string (zS (gu F)))∧Below w1.heap.size w1 w):=by
  intro h w1 hb
  obtain ⟨-,c1,c2,c3,c4,c5⟩:=FM h
  exact z8 ((hP.up bq).up hb) ((hF.up bq).up hb) ((vC.up bq).up hb) c1 c2 c3 c4 c5 (FN F)
 have HT:Hid (∀w1,Below V.heap.size V w1→Calls Tryz.prog 32 #[.string (zS (gu F))] w1 (Od (zS (gu F)) w1)):=fun w1 hb =>
  B8 ((hF.up bq).up hb) ((hE.up bq).up hb) ((hM.up bq hM.1).up hb (hM.up bq hM.1).1) _
 have HB:=ak bq
 have HK:=ak k0
 obtain ⟨ai,ci,rfl,hni,-⟩:=vC.hi
 obtain ⟨am,cq,rfl,Vh,-⟩:=vC.hm
 obtain ⟨ae,cn,rfl,jN,-⟩:=vC.he
 have c0:V.cell? ⟨W.heap.size,0,none⟩=some (.string F.dj):=cell_of_row _ _ _ _ _ _ k0
 have c1:V.cell? ⟨W.heap.size,1,none⟩=some (.slice ai F.bp.length ci):=cell_of_row _ _ _ _ _ _ k0
 have c2:V.cell? ⟨W.heap.size,2,none⟩=some (.slice am F.ms.length cq):=cell_of_row _ _ _ _ _ _ k0
 have c3:V.cell? ⟨W.heap.size,3,none⟩=some (.slice ae F.es.length cn):=cell_of_row _ _ _ _ _ _ k0
 unfold fz
 obtain ⟨q,hq⟩:∃q,(jG F).isSome=q:=⟨_,rfl⟩
 obtain ⟨t,ht⟩:∃t,ny (zS (gu F))=t:=⟨_,rfl⟩
 obtain ⟨T,hT⟩:∃T,zS (gu F)=T:=⟨_,rfl⟩
 rw[hT] at HW HT ht
 rw[hq] at HR HW
 rw[hq,hT,ht]
 have Ht:=ak ht
 have bn:=ak (show W.heap.size<V.heap.size by rw[←hV,zJ];omega)
 clear hq hT ht hM hE hP hF vC iL bq k0
 cases q with
 |false =>
  clear HW HT Ht
  go_enter Tryz.func15,Tryz.ntmps15
  go_wp2_with fail
  refine (ab HR).mono ?_
  rintro e w1 ⟨rfl,aY⟩
  have HE:=ak ((ab HB).trans (aY.mono (ab HB).size))
  clear aY HR HB
  go_wp2
  go_ret2
  exact ⟨rfl,ab HE⟩
 |true =>
  go_enter Tryz.func15,Tryz.ntmps15
  go_wp2_with fail
  refine (ab HR).mono ?_
  rintro e w1 ⟨rfl,aY⟩
  have hd:=(aY.block _ (ab bn)).trans (ab HK)
  have d0:w1.cell? ⟨W.heap.size,0,none⟩=some (.string F.dj):=cell_of_row _ _ _ _ _ _ hd
  have d1:w1.cell? ⟨W.heap.size,1,none⟩=some (.slice ai F.bp.length ci):=cell_of_row _ _ _ _ _ _ hd
  have d2:w1.cell? ⟨W.heap.size,2,none⟩=some (.slice am F.ms.length cq):=cell_of_row _ _ _ _ _ _ hd
  have d3:w1.cell? ⟨W.heap.size,3,none⟩=some (.slice ae F.es.length cn):=cell_of_row _ _ _ _ _ _ hd
  have W5:=ak (ab HW trivial w1 aY)
  have ei:=ak aY
  clear aY HR HW hd c0 c1 c2 c3
  go_wp2_with fail
  refine (ab W5).mono ?_
  rintro e w2 ⟨rfl,b9⟩
  have b9:=(ab ei).trans (b9.mono (ab ei).size)
  have qq:=ak (ab HT w2 b9)
  have dF:=ak b9
  clear b9 HT W5 ei d0 d1 d2 d3
  go_wp2_with fail
  refine (ab qq).mono ?_
  rintro e w3 ⟨cY,hA⟩
  have HE:=ak ((ab HB).trans (((ab dF).trans (cY.mono (ab dF).size)).mono (ab HB).size))
  rw[ab Ht] at hA
  clear cY HB dF qq
  cases t with
  |inl ts =>
   obtain ⟨x,rfl,-⟩:=hA
   go_wp2
   go_ret2
   exact ⟨rfl,ab HE⟩
  |inr r =>
   obtain ⟨k,c⟩:=r
   obtain ⟨hc,rfl⟩:=hA
   have n0:((c:Int)==0)=false:=by simp;omega
   have n1:((c:Int) != 0)=true:=by simp;omega
   have n2:¬(c:Int)=0:=by omega
   go_wp2
   go_ret2
   exact ⟨rfl,ab HE⟩
theorem QB:(Tryz.prog.info? 83).map (fun i=>(i.zero,i.size,i.bytes))=some (some (.agg #[.int .i64 0,.int .i64 0]),2,16):=by kernel_rfl
theorem Mf {l:List (Int×Int)}{i:Nat}{x:Int×Int} (h:l[i]?=some x):eP (l.take (i+1))=eP (l.take i)++[.int .i64 x.1,.int .i64 x.2]:=by
 rw[dB h]
 unfold eP
 rw[List.flatMap_append]
 simp
theorem xY (w:World) (x y:Value) (t:TypeId):∀j u,[x,y][j]?=some u→(w.alloc (.cells #[x,y] t)).cell? ((⟨w.heap.size,0,none⟩:Addr).add j)=some u:=by
 intro j u h
 match j with
 |0=>rw[show (⟨w.heap.size,0,none⟩:Addr).add 0=⟨w.heap.size,0,none⟩ from rfl,cell_of_row _ _ _ _ _ _ (aE w _)];exact h
 |1=>rw[show (⟨w.heap.size,0,none⟩:Addr).add 1=⟨w.heap.size,1,none⟩ from rfl,cell_of_row _ _ _ _ _ _ (aE w _)];exact h
 |j+2=>simp at h
theorem Me {l:List ByteArray}{i:Nat}{x:ByteArray} (h:l[i]?=some x):bj (l.take (i+1))=bj (l.take i)++[.string x]:=by
 rw[dB h]
 unfold bj
 simp
theorem mx {W:World}{v:Value}{l:List ByteArray} (hv:Rl W v l.length (bj l)) (hl:l.length*16≤140737488355328) (w0:World) (hw:Below W.heap.size W w0) :
  Calls Tryz.prog 21 #[v] w0 fun e w=>∃u,e=.returned u∧w.ownsRow w0.heap.size 9 1 u l.length (bj l)∧Below w0.heap.size w0 w:=by
 obtain ⟨a,c,rfl,hn,h2⟩:=hv
 obtain ⟨i0,hi,fX,gp,fJ⟩:=info_parts CF
 have H2:=ak h2
 have HW:=ak hw
 have Hl:=ak hl
 clear h2 hw hl
 go_enter Tryz.func21,Tryz.ntmps21
 go_wp2
 go_loopg [3,4] l.length (fun gk v3 v4 wr=>∃(i:Nat),v4=.int .i64 (i:Int)∧gk=l.length-i∧i≤l.length∧Hid (wr.ownsRow w0.heap.size 9 1 v3 i (bj (l.take i)))∧Hid (Below w0.heap.size w0 wr))
 case atStart=>exact ⟨0,rfl,rfl,by omega,⟨rfl,.inl ⟨rfl,rfl⟩⟩,zE _ _⟩
 case round =>
  obtain ⟨i,rfl,bd,fY,HO,HB⟩:=hrel
  have bH:=ak bd
  clear bd
  by_cases aU:i<l.length
  ·obtain ⟨g,o,rfl,hg,hc⟩:=ab H2 (by omega)
   have hr:=List.getElem?_eq_getElem aU
   obtain ⟨r,oW⟩:∃r,l[i]=r:=⟨_,rfl⟩
   rw[oW] at hr
   have dh:=ak (show Below W.heap.size W wr from (ab HW).trans ((ab HB).mono (ab HW).size))
   have x0:=((ab dh).cell (p:=⟨g,o+i,none⟩) hg).trans (hc _ _ (gJ hr))
   have HT:=ak (Me hr)
   have Fo:(0:Int)≤(i:Int):=zH _
   have i1:(i:Int)<(l.length:Int):=by omega
   have bn:=ak aU
   have eZ:=ak (ab HB).size
   clear hc hr oW dh aU
   go_wp2_with (at_builtin;refine wpList_append_own_at _ rfl _ _ 22 rfl w0.heap.size 9 i0 (.string ByteArray.empty) 1 16 Tryz.underlying22 hi fX gp fJ rfl (by decide) _ _ _ rfl ((ab HO).alloc _) ⟨wr.heap.size,0,none⟩ 1 1 [.string r] rfl rfl (cell_one_new _ _ _) (by simp[Value.oneCell']) (by have:=ab bn;unfold maxLen;omega) (by have:=ab bn;have:=ab Hl;omega) (by rw[zJ];have:=ab eZ;omega) ?_;intro v' w2 ho cE _ _;have jj:=ak ho;have dF:=ak (((ab HB).alloc (ab HB).size _).grown cE (by rw[zJ];have:=ab eZ;omega) (fun k e=>((ab HO).lt k e).1));clear ho cE)
   rw[←ab HT] at jj
   go_roundg (l.length-(i+1))
   case measure=>have:=ab bH;have:=ab bn;omega
   case rel=>exact ⟨i+1,by go_num,rfl,ab bn,jj,dF⟩
  ·obtain rfl:i=l.length:=by omega
   have hO:=ab HO
   rw[List.take_length] at hO
   have jj:=ak hO
   clear hO
   go_wp2
   go_ret
   exact ⟨_,rfl,ab jj,ab HB⟩
theorem uM {W:World}{v:Value}{l:List (Int×Int)} (hv:Rl W v l.length (eP l)) (hl:l.length*16≤140737488355328) (w0:World) (hw:Below W.heap.size W w0) :
  Calls Tryz.prog 44 #[v] w0 fun e w=>∃u,e=.returned u∧w.ownsRow w0.heap.size 83 2 u l.length (eP l)∧Below w0.heap.size w0 w:=by
 obtain ⟨a,c,rfl,hn,h2⟩:=hv
 obtain ⟨i0,hi,fX,gp,fJ⟩:=info_parts QB
 have H2:=ak h2
 have HW:=ak hw
 have Hl:=ak hl
 clear h2 hw hl
 go_enter Tryz.func44,Tryz.ntmps44
 go_wp2
 go_loopg [3,4] l.length (fun gk v3 v4 wr=>∃(i:Nat),v4=.int .i64 (i:Int)∧gk=l.length-i∧i≤l.length∧Hid (wr.ownsRow w0.heap.size 83 2 v3 i (eP (l.take i)))∧Hid (Below w0.heap.size w0 wr))
 case atStart=>exact ⟨0,rfl,rfl,by omega,⟨rfl,.inl ⟨rfl,rfl⟩⟩,zE _ _⟩
 case round =>
  obtain ⟨i,rfl,bd,fY,HO,HB⟩:=hrel
  have bH:=ak bd
  clear bd
  by_cases aU:i<l.length
  ·obtain ⟨g,o,rfl,hg,hc⟩:=ab H2 (by omega)
   have hr:=List.getElem?_eq_getElem aU
   obtain ⟨r,oW⟩:∃r,l[i]=r:=⟨_,rfl⟩
   rw[oW] at hr
   have dh:=ak (show Below W.heap.size W wr from (ab HW).trans ((ab HB).mono (ab HW).size))
   have x0:=((ab dh).cell (p:=⟨g,o+(i*2+0),none⟩) hg).trans (hc _ _ (fN hr (j:=0) (by decide)))
   have x1:=((ab dh).cell (p:=⟨g,o+(i*2+1),none⟩) hg).trans (hc _ _ (fN hr (j:=1) (by decide)))
   rw[Nat.add_zero] at x0
   rw[←Nat.add_assoc] at x1
   have HT:=ak (Mf hr)
   have Fo:(0:Int)≤(i:Int):=zH _
   have i1:(i:Int)<(l.length:Int):=by omega
   have bn:=ak aU
   have eZ:=ak (ab HB).size
   clear hc hr oW dh aU
   go_wp2_with (at_builtin;refine wpList_append_own_at _ rfl _ _ 55 rfl w0.heap.size 83 i0 (.agg #[.int .i64 0,.int .i64 0]) 2 16 Tryz.underlying55 hi fX gp fJ rfl (by decide) _ _ _ rfl ((ab HO).alloc _) ⟨wr.heap.size,0,none⟩ 1 1 [.int .i64 r.1,.int .i64 r.2] rfl rfl (xY _ _ _ _) (by simp[Value.oneCell']) (by have:=ab bn;unfold maxLen;omega) (by have:=ab bn;have:=ab Hl;omega) (by rw[zJ];have:=ab eZ;omega) ?_;intro v' w2 ho cE _ _;have jj:=ak ho;have dF:=ak (((ab HB).alloc (ab HB).size _).grown cE (by rw[zJ];have:=ab eZ;omega) (fun k e=>((ab HO).lt k e).1));clear ho cE)
   rw[←ab HT] at jj
   go_roundg (l.length-(i+1))
   case measure=>have:=ab bH;have:=ab bn;omega
   case rel=>exact ⟨i+1,by go_num,rfl,ab bn,jj,dF⟩
  ·obtain rfl:i=l.length:=by omega
   have hO:=ab HO
   rw[List.take_length] at hO
   have jj:=ak hO
   clear hO
   go_wp2
   go_ret
   exact ⟨_,rfl,ab jj,ab HB⟩
end Go.Proofs.YtghioefalckgoaaGreatDoor
namespace Go.Proofs.YtghioefalckgoaaGreatDoor
open Go.RowKit
def fW (R:Nat→Prop) (w:World) (e:TypeId) (size:Nat) (v:Value) (n:Nat) (xs:List Value):Prop :=
 xs.length=n*size∧n≤140737488355328∧((v=.slice none 0 0∧n=0)∨∃g cap cur,v=.slice (some ⟨g,0,none⟩) n cap∧R g∧w.heap[g]?=some (.cells cur e (0,0))∧n≤cap∧cap≤maxLen∧cur.size=cap*size∧cur.toList.take (n*size)=xs)
def fV (R R':Nat→Prop) (w w':World):Prop:=∀g,R g→g<w.heap.size→w'.heap[g]?=w.heap[g]?∧R' g
theorem fV.trans {R R' R'':Nat→Prop}{u v w:World} (h:fV R R' u v) (k:fV R' R'' v w) (hs:u.heap.size≤v.heap.size):fV R R'' u w:=fun g hg hl =>
 ⟨(k g (h g hg hl).2 (Nat.lt_of_lt_of_le hl hs)).1.trans (h g hg hl).1,(k g (h g hg hl).2 (Nat.lt_of_lt_of_le hl hs)).2⟩
theorem fW.mono {R R':Nat→Prop}{w w':World}{e size n:Nat}{v:Value}{xs:List Value} (h:fW R w e size v n xs) (hs:fV R R' w w'):fW R' w' e size v n xs:=by
 obtain ⟨h1,h0,h|⟨g,cap,cur,rfl,h2,h3,h4⟩⟩:=h
 ·exact ⟨h1,h0,.inl h⟩
 ·have:=hs g h2 (zA h3).1
  exact ⟨h1,h0,.inr ⟨g,cap,cur,rfl,this.2,this.1.trans h3,h4⟩⟩
theorem fW.rl {R:Nat→Prop}{w:World}{e size n:Nat}{v:Value}{xs:List Value} (h:fW R w e size v n xs):Rl w v n xs:=by
 obtain ⟨h1,h0,⟨rfl,rfl⟩|⟨g,cap,cur,rfl,h2,h3,h4,h5,h6,h7⟩⟩:=h
 ·exact ⟨none,0,rfl,h0,fun h=>absurd h (by omega)⟩
 ·refine ⟨_,cap,rfl,h0,fun _=>⟨g,0,rfl,(zA h3).1,fun j x hx=>?_⟩⟩
  rw[Nat.zero_add,cell_of_row _ _ _ _ _ _ h3,←Array.getElem?_toList]
  rw[←h7,List.getElem?_take] at hx
  split at hx
  ·exact hx
  ·cases hx
theorem bP {B:Nat}{w:World}{e size n:Nat}{v:Value}{xs:List Value} (h:w.ownsRow B e size v n xs) (hn:n≤140737488355328):fW (fun g=>B≤g) w e size v n xs:=by
 obtain ⟨h1,h|⟨g,cap,cur,rfl,h2⟩⟩:=h
 ·exact ⟨h1,hn,.inl h⟩
 ·exact ⟨h1,hn,.inr ⟨g,cap,cur,rfl,h2⟩⟩
inductive py (R:Nat→Prop) (w:World):List Value→List En→Prop
 |nil:py R w [] []
 |cons {e:En} {vv vr vg:Value} {rest:List Value} {l:List En} (hv:fW R w 65 2 vv e.aW.length (mR e.aW)) (hr:fW R w 83 2 vr e.res.length (eP e.res)) (hg:fW R w 9 1 vg e.gone.length (bj e.gone)) (ht:py R w rest l):py R w (.string e.name::vv::vr::vg::rest) (e::l)
theorem py.mono {R R':Nat→Prop}{w w':World}{cs:List Value}{l:List En} (h:py R w cs l) (hs:fV R R' w w'):py R' w' cs l:=by
 induction h with
 |nil=>exact .nil
 |cons hv hr hg _ ih=>exact .cons (hv.mono hs) (hr.mono hs) (hg.mono hs) ih
theorem py.nU {R:Nat→Prop}{w:World}{cs:List Value}{l:List En} (h:py R w cs l):qV w cs l:=by
 induction h with
 |nil=>exact .nil
 |cons hv hr hg _ ih=>exact .cons hv.rl hr.rl hg.rl ih
theorem py.app {R:Nat→Prop}{w:World}{cs fI:List Value}{l l':List En} (h:py R w cs l) (k:py R w fI l'):py R w (cs++fI) (l++l'):=by
 induction h with
 |nil=>exact k
 |cons hv hr hg _ ih=>exact .cons hv hr hg ih
inductive pr (R:Nat→Prop) (w:World):List Value→List Ms→Prop
 |nil:pr R w [] []
 |cons {nm:ByteArray} {fs:List Fd} {os:List ByteArray} {ms:List Ms} {es:List En} {rs:List (Int×Int)} {gs:List ByteArray} {vf vo vm ve vr vg:Value} {cm ce rest:List Value} {l:List Ms}
   (hf:fW R w 53 6 vf fs.length (cC fs)) (ho:fW R w 9 1 vo os.length (bj os)) (hm:fW R w 57 7 vm ms.length cm) (eI:pr R w cm ms) (he:fW R w 63 4 ve es.length ce) (ep:py R w ce es)
   (hr:fW R w 83 2 vr rs.length (eP rs)) (hg:fW R w 9 1 vg gs.length (bj gs)) (ht:pr R w rest l):pr R w (.string nm::vf::vo::vm::ve::vr::vg::rest) (.mk nm fs os ms es rs gs::l)
theorem pr.mono {R R':Nat→Prop}{w w':World}{cs:List Value}{l:List Ms} (h:pr R w cs l) (hs:fV R R' w w'):pr R' w' cs l:=by
 induction h with
 |nil=>exact .nil
 |cons hf ho hm _ he ep hr hg _ q8 oU=>exact .cons (hf.mono hs) (ho.mono hs) (hm.mono hs) q8 (he.mono hs) (ep.mono hs) (hr.mono hs) (hg.mono hs) oU
theorem pr.nU {R:Nat→Prop}{w:World}{cs:List Value}{l:List Ms} (h:pr R w cs l):nS w cs l:=by
 induction h with
 |nil=>exact .nil
 |cons hf ho hm _ he ep hr hg _ q8 oU=>exact .cons hf.rl ho.rl hm.rl q8 he.rl ep.nU hr.rl hg.rl oU
theorem pr.app {R:Nat→Prop}{w:World}{cs fI:List Value}{l l':List Ms} (h:pr R w cs l) (k:pr R w fI l'):pr R w (cs++fI) (l++l'):=by
 induction h with
 |nil=>exact k
 |cons hf ho hm eI he ep hr hg _ _ oU=>exact .cons hf ho hm eI he ep hr hg oU
theorem aC {R:Nat→Prop}{w w':World} (hb:Below w.heap.size w w'):fV R R w w':=fun g hg hl=>⟨hb.block g hl,hg⟩
theorem lT {R:Nat→Prop}{w w':World}{k:Option Nat} (hg:w.grownBy w' k) (hk:∀g,R g→k≠some g):fV R R w w':=fun g h hl=>⟨hg.block g hl (fun e=>hk g h e.symm),h⟩
theorem oq {P:Program}{w:World}{ops:Array Oper}{o:Oper}{a:Act}{K:Act→World→Prop}{Q:Exit→Act→World→Prop}{E:Prop} (x0:Tmp) (hx0:o.dst=some x0) (wg:o.guard=none) (s x:Operand) (t:TypeId)
  (ho:o.op=.call { callee:=.builtin .append,args:=#[s,x],argTypes:=#[t,t] })
  (base:Nat) (e:TypeId) (i:TypeInfo) (z:Value) (size bytes:Nat) (ht:P.underlying t=some (.slice e)) (hi:P.info? e=some i) (hz:i.zero=some z)
  (fQ:i.size=size) (jD:i.bytes=bytes) (M4:z.cells.size=size) (iL:0<size)
  (v:Value) (n:Nat) (xs:List Value) (hs:a.eval s=v) (cU:w.ownsRow base e size v n xs)
  (ad:Addr) (m c:Nat) (news:List Value) (hx:a.eval x=.slice (some ad) m c) (hl:news.length=m*size) (oX:∀j u,news[j]?=some u→w.cell? (ad.add j)=some u) (h1:∀u ∈ news,u.oneCell'=true)
  (Ec:n+m≤maxLen) (gE:(n+m)*bytes≤140737488355328) (ns:base≤w.heap.size)
  (h:∀v' w',w'.ownsRow base e size v' (n+m) (xs++news)→w.grownBy w' v.ownBlock→(v'.ownBlock=v.ownBlock∨v'.ownBlock=some w.heap.size)→K (a.put (some x0) v') w') :
  if Region.wanted o (yielded ops a.tmps)=true then Oper.wp P o a w K Q else E:=by
 rw[←hx0] at h
 have hw:Region.wanted o (yielded ops a.tmps)=true:=by simp[Region.wanted,wg]
 rw[if_pos hw]
 obtain ⟨v',w',hr,h2,h3,h4,h5⟩:=run_append_own_at (P:=P) w base t o.type e i z size bytes ht hi hz fQ jD M4 iL v n xs cU ad m c news hl oX h1 Ec gE ns
 unfold Oper.wp execOp
 simp only[ho,resolve,invoke,builtin,Sem.run_bind,Sem.run_pure,Result.andThen_ok,List.map_toArray,List.map_cons,List.map_nil,hs,hx,hr]
 exact h v' w' h2 h3 h5
end Go.Proofs.YtghioefalckgoaaGreatDoor

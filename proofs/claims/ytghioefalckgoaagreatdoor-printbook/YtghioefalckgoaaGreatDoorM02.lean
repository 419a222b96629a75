import Derived.Test.YtghioefalckgoaaGreatDoorM01
import Derived.Deep.DeepCutAuto
set_option maxHeartbeats 2000000
set_option maxRecDepth 100000
namespace Go.Proofs.YtghioefalckgoaaGreatDoor
inductive SI
 |S|M|E|F|FF|R|V
def SI.el:SI→TypeId
 |.S=>9
 |.M=>57
 |.E=>63
 |.F=>53
 |.FF=>54
 |.R=>83
 |.V=>65
def SI.k:SI→Nat
 |.S=>1
 |.M=>7
 |.E=>4
 |.F=>6
 |.FF=>1
 |.R=>2
 |.V=>2
def SI.sw:SI→FuncId
 |.S=>306
 |.M=>307
 |.E=>314
 |.F=>331
 |.FF=>332
 |.R=>333
 |.V=>334
def SI.sr:SI→FuncId
 |.S=>281
 |.M=>282
 |.E=>287
 |.F=>325
 |.FF=>326
 |.R=>327
 |.V=>328
def SI.sy:SI→FuncId
 |.S=>247
 |.M=>249
 |.E=>261
 |.F=>309
 |.FF=>311
 |.R=>313
 |.V=>316
def SI.si:SI→FuncId
 |.S=>246
 |.M=>248
 |.E=>260
 |.F=>308
 |.FF=>310
 |.R=>312
 |.V=>315
def SI.sl:SI→FuncId
 |.S=>188
 |.M=>190
 |.E=>203
 |.F=>283
 |.FF=>285
 |.R=>286
 |.V=>288
def SI.so:SI→FuncId
 |.S=>121
 |.M=>125
 |.E=>130
 |.F=>251
 |.FF=>255
 |.R=>258
 |.V=>263
end Go.Proofs.YtghioefalckgoaaGreatDoor
namespace Go.Proofs.YtghioefalckgoaaGreatDoor
open Go.RowKit
attribute [local go_sem ↓] Go.wp_at_zero Go.wp_at_succ
theorem vd (W:World) (x:Int):Calls Tryz.prog 284 #[.int .i64 x] W fun e w=>e=.returned (.bool false)∧W.grownBy w none:=by
 have k1:((x:Int)==x)=true:=by simp
 go_enter Tryz.func284,Tryz.ntmps284
 go_wp2
 go_ret
 exact ⟨rfl,zI _ _⟩
theorem zi (W:World) (x y:Int):Calls Tryz.prog 253 #[.int .i64 x,.int .i64 y] W fun e w=>(∃r:Int,e=.returned (.int .i64 r)∧decide (r<0)=decide (x<y))∧W.grownBy w none:=by
 have H1:=fun W=>ak (vd W x)
 have H2:=fun W=>ak (vd W y)
 go_enter Tryz.func253,Tryz.ntmps253
 go_wp2_with fail
 refine (ab (H1 _)).mono ?_
 rintro e w1 ⟨rfl,bG⟩
 have eY:=ak bG
 clear bG
 go_wp2_with fail
 refine (ab (H2 _)).mono ?_
 rintro e w2 ⟨rfl,cE⟩
 have wG:=ak ((ab eY).trans cE)
 clear cE H1 H2
 by_cases h1:x<y
 ·have k1:decide (x<y)=true:=decide_eq_true h1
  go_wp2
  go_ret
  exact ⟨⟨-1,rfl,by simp;omega⟩,ab wG⟩
 ·have k1:decide (x<y)=false:=decide_eq_false h1
  by_cases h2:y<x
  ·have k2:decide (y<x)=true:=decide_eq_true h2
   go_wp2
   go_ret
   exact ⟨⟨1,rfl,by simp;omega⟩,ab wG⟩
  ·have k2:decide (y<x)=false:=decide_eq_false h2
   go_wp2
   go_ret
   exact ⟨⟨0,rfl,by simp;omega⟩,ab wG⟩
theorem u9 (W:World) (x:ByteArray):Calls Tryz.prog 189 #[.string x] W fun e w=>e=.returned (.bool false)∧W.grownBy w none:=by
 go_enter Tryz.func189,Tryz.ntmps189
 go_wp2
 go_ret
 exact ⟨by simp,zI _ _⟩
@[local go_sem] theorem AA (W:World) (x y:ByteArray):(binOp BinOp.gtr 9 (.string x) (.string y)).run Tryz.prog W=.ok (.bool (!(Op.bytesLess x.toList y.toList ||x.toList==y.toList))) W:=rfl
theorem zh (W:World) (x y:ByteArray):Calls Tryz.prog 123 #[.string x,.string y] W fun e w=>(∃r:Int,e=.returned (.int .i64 r)∧decide (r<0)=Op.bytesLess x.toList y.toList)∧W.grownBy w none:=by
 have H1:=fun W=>ak (u9 W x)
 have H2:=fun W=>ak (u9 W y)
 go_enter Tryz.func123,Tryz.ntmps123
 go_wp2_with fail
 refine (ab (H1 _)).mono ?_
 rintro e w1 ⟨rfl,bG⟩
 have eY:=ak bG
 clear bG
 go_wp2_with fail
 refine (ab (H2 _)).mono ?_
 rintro e w2 ⟨rfl,cE⟩
 have wG:=ak ((ab eY).trans cE)
 clear cE H1 H2
 cases k1:Op.bytesLess x.toList y.toList with
 |true =>
  go_wp2
  go_ret
  exact ⟨⟨-1,rfl,by simp[k1]⟩,ab wG⟩
 |false =>
  have HK:=ak k1
  cases k2:(x.toList==y.toList) with
  |true =>
   go_wp2
   go_ret
   exact ⟨⟨0,rfl,by rw[ab HK];rfl⟩,ab wG⟩
  |false =>
   go_wp2
   go_ret
   exact ⟨⟨1,rfl,by rw[ab HK];rfl⟩,ab wG⟩
end Go.Proofs.YtghioefalckgoaaGreatDoor
namespace Go.Proofs.YtghioefalckgoaaGreatDoor
open Go.RowKit
structure Fd where
 aZ:Int
 key:ByteArray
 ty:ByteArray
 name:ByteArray
 num:Int
 aH:Int
def Fd.cs (d:Fd):List Value:=[.int .i64 d.aZ,.string d.key,.string d.ty,.string d.name,.int .i64 d.num,.int .i64 d.aH]
structure En where
 name:ByteArray
 aW:List (ByteArray×Int)
 res:List (Int×Int)
 gone:List ByteArray
inductive Ms where
 |mk (name:ByteArray) (fs:List Fd) (os:List ByteArray) (ms:List Ms) (es:List En) (rs:List (Int×Int)) (gs:List ByteArray):Ms
structure Fl where
 dj:ByteArray
 bp:List ByteArray
 ms:List Ms
 es:List En
def bj (l:List ByteArray):List Value:=l.map Value.string
def cC (l:List Fd):List Value:=l.flatMap Fd.cs
def mR (l:List (ByteArray×Int)):List Value:=l.flatMap fun p=>[.string p.1,.int .i64 p.2]
def eP (l:List (Int×Int)):List Value:=l.flatMap fun p=>[.int .i64 p.1,.int .i64 p.2]
theorem lC {α:Type} (f:α→List Value) (k:Nat) (hf:∀x,(f x).length=k):∀(l:List α) (i j:Nat) (x:α),l[i]?=some x→j<k→(l.flatMap f)[i*k+j]?=(f x)[j]?
 |[],i,j,x,h,_=>by simp at h
 |y::r,0,j,x,h,hj=>by
  obtain rfl:y=x:=by simpa using h
  rw[List.flatMap_cons,Nat.zero_mul,Nat.zero_add,List.getElem?_append_left (by rw[hf];exact hj)]
 |y::r,i+1,j,x,h,hj=>by
  rw[List.flatMap_cons,List.getElem?_append_right (by rw[hf,Nat.succ_mul];omega),hf,show (i+1)*k+j-k=i*k+j by rw[Nat.succ_mul];omega]
  exact lC f k hf r i j x (by simpa using h) hj
theorem o8 {α:Type} (f:α→List Value) (k:Nat) (hf:∀x,(f x).length=k):∀(l:List α),(l.flatMap f).length=l.length*k
 |[]=>by simp
 |y::r=>by rw[List.flatMap_cons,zK,hf,o8 f k hf r,List.length_cons,Nat.succ_mul];omega
theorem Ix (l:List ByteArray):(bj l).length=l.length:=by simp[bj]
theorem Bl (l:List Fd):(cC l).length=l.length*6:=o8 _ 6 (fun _=>rfl) l
theorem Eh (l:List (ByteArray×Int)):(mR l).length=l.length*2:=o8 _ 2 (fun _=>rfl) l
theorem yt (l:List (Int×Int)):(eP l).length=l.length*2:=o8 _ 2 (fun _=>rfl) l
theorem gJ {l:List ByteArray}{i:Nat}{t:ByteArray} (h:l[i]?=some t):(bj l)[i]?=some (.string t):=by unfold bj;rw[List.getElem?_map,h];rfl
theorem da {l:List Fd}{i:Nat}{d:Fd} (h:l[i]?=some d) {j:Nat} (hj:j<6):(cC l)[i*6+j]?=d.cs[j]?:=lC _ 6 (fun _=>rfl) l i j d h hj
theorem kG {l:List (ByteArray×Int)}{i:Nat}{d:ByteArray×Int} (h:l[i]?=some d) {j:Nat} (hj:j<2):(mR l)[i*2+j]?=[Value.string d.1,.int .i64 d.2][j]?:=lC _ 2 (fun _=>rfl) l i j d h hj
theorem fN {l:List (Int×Int)}{i:Nat}{d:Int×Int} (h:l[i]?=some d) {j:Nat} (hj:j<2):(eP l)[i*2+j]?=[Value.int .i64 d.1,.int .i64 d.2][j]?:=lC _ 2 (fun _=>rfl) l i j d h hj
def Rl (w:World) (v:Value) (n:Nat) (xs:List Value):Prop:=∃a c,v=.slice a n c∧n≤140737488355328∧(0<n→∃g o,a=some ⟨g,o,none⟩∧g<w.heap.size∧∀j x,xs[j]?=some x→w.cell? ⟨g,o+j,none⟩=some x)
theorem Rl.up {w w':World}{v:Value}{n:Nat}{xs:List Value} (h:Rl w v n xs) (hb:Below w.heap.size w w'):Rl w' v n xs:=by
 obtain ⟨a,c,rfl,h1,h2⟩:=h
 refine ⟨a,c,rfl,h1,fun hp=>?_⟩
 obtain ⟨g,o,rfl,h3,h4⟩:=h2 hp
 exact ⟨g,o,rfl,Nat.lt_of_lt_of_le h3 hb.size,fun j x hx=>(hb.cell (p:=⟨g,o+j,none⟩) h3).trans (h4 j x hx)⟩
inductive qV (w:World):List Value→List En→Prop
 |nil:qV w [] []
 |cons {e:En} {vv vr vg:Value} {rest:List Value} {l:List En} (hv:Rl w vv e.aW.length (mR e.aW)) (hr:Rl w vr e.res.length (eP e.res)) (hg:Rl w vg e.gone.length (bj e.gone)) (ht:qV w rest l):qV w (.string e.name::vv::vr::vg::rest) (e::l)
theorem qV.up {w w':World}{cs:List Value}{l:List En} (h:qV w cs l) (hb:Below w.heap.size w w'):qV w' cs l:=by
 induction h with
 |nil=>exact .nil
 |cons hv hr hg _ ih=>exact .cons (hv.up hb) (hr.up hb) (hg.up hb) ih
theorem qV.len {w:World}{cs:List Value}{l:List En} (h:qV w cs l):cs.length=l.length*4:=by
 induction h with
 |nil=>rfl
 |cons hv hr hg _ ih=>simp only[List.length_cons,ih];omega
theorem qV.at {w:World}{cs:List Value}{l:List En} (h:qV w cs l):∀(i:Nat) (e:En),l[i]?=some e→∃vv vr vg,(cs.drop (i*4)).take 4=[.string e.name,vv,vr,vg]∧Rl w vv e.aW.length (mR e.aW)∧Rl w vr e.res.length (eP e.res)∧Rl w vg e.gone.length (bj e.gone):=by
 induction h with
 |nil=>intro i e h;simp at h
 |cons hv hr hg _ ih =>
  intro i e h
  cases i with
  |zero =>
   obtain rfl:=zC (h.symm.trans rfl)
   exact ⟨_,_,_,rfl,hv,hr,hg⟩
  |succ i =>
   obtain ⟨vv,vr,vg,h1,h2⟩:=ih i e (by simpa using h)
   refine ⟨vv,vr,vg,?_,h2⟩
   rw[show (i+1)*4=i*4+4 by omega]
   exact h1
inductive nS (w:World):List Value→List Ms→Prop
 |nil:nS w [] []
 |cons {nm:ByteArray} {fs:List Fd} {os:List ByteArray} {ms:List Ms} {es:List En} {rs:List (Int×Int)} {gs:List ByteArray} {vf vo vm ve vr vg:Value} {cm ce rest:List Value} {l:List Ms}
   (hf:Rl w vf fs.length (cC fs)) (ho:Rl w vo os.length (bj os)) (hm:Rl w vm ms.length cm) (eI:nS w cm ms) (he:Rl w ve es.length ce) (ep:qV w ce es)
   (hr:Rl w vr rs.length (eP rs)) (hg:Rl w vg gs.length (bj gs)) (ht:nS w rest l):nS w (.string nm::vf::vo::vm::ve::vr::vg::rest) (.mk nm fs os ms es rs gs::l)
theorem nS.up {w w':World}{cs:List Value}{l:List Ms} (h:nS w cs l) (hb:Below w.heap.size w w'):nS w' cs l:=by
 induction h with
 |nil=>exact .nil
 |cons hf ho hm _ he ep hr hg _ q8 oU=>exact .cons (hf.up hb) (ho.up hb) (hm.up hb) q8 (he.up hb) (ep.up hb) (hr.up hb) (hg.up hb) oU
theorem nS.len {w:World}{cs:List Value}{l:List Ms} (h:nS w cs l):cs.length=l.length*7:=by
 induction h with
 |nil=>rfl
 |cons hf ho hm _ he ep hr hg _ _ oU=>simp only[List.length_cons,oU];omega
structure WH (w:World) (m:Ms) (vf vo vm ve vr vg:Value) (nm:ByteArray) (fs:List Fd) (os:List ByteArray) (ms:List Ms) (es:List En) (rs:List (Int×Int)) (gs:List ByteArray) (cm ce:List Value):Prop where
 is:m=.mk nm fs os ms es rs gs
 hf:Rl w vf fs.length (cC fs)
 ho:Rl w vo os.length (bj os)
 hm:Rl w vm ms.length cm
 eI:nS w cm ms
 he:Rl w ve es.length ce
 ep:qV w ce es
 hr:Rl w vr rs.length (eP rs)
 hg:Rl w vg gs.length (bj gs)
theorem nS.at {w:World}{cs:List Value}{l:List Ms} (h:nS w cs l):∀(i:Nat) (m:Ms),l[i]?=some m→∃vf vo vm ve vr vg nm fs os ms es rs gs cm ce,(cs.drop (i*7)).take 7=[.string nm,vf,vo,vm,ve,vr,vg]∧WH w m vf vo vm ve vr vg nm fs os ms es rs gs cm ce:=by
 induction h with
 |nil=>intro i e h;simp at h
 |cons hf ho hm eI he ep hr hg _ _ ih =>
  intro i m h
  cases i with
  |zero =>
   obtain rfl:=zC (h.symm.trans rfl)
   exact ⟨_,_,_,_,_,_,_,_,_,_,_,_,_,_,_,rfl,⟨rfl,hf,ho,hm,eI,he,ep,hr,hg⟩⟩
  |succ i =>
   obtain ⟨vf,vo,vm,ve,vr,vg,nm,fs,os,ms,es,rs,gs,cm,ce,h1,h2⟩:=ih i m (by simpa using h)
   refine ⟨vf,vo,vm,ve,vr,vg,nm,fs,os,ms,es,rs,gs,cm,ce,?_,h2⟩
   rw[show (i+1)*7=i*7+7 by omega]
   exact h1
structure zy (w:World) (v:Value) (F:Fl) (vi vm ve:Value) (cm ce:List Value):Prop where
 is:v=.agg #[.string F.dj,vi,vm,ve]
 hi:Rl w vi F.bp.length (bj F.bp)
 hm:Rl w vm F.ms.length cm
 eI:nS w cm F.ms
 he:Rl w ve F.es.length ce
 ep:qV w ce F.es
theorem zy.up {w w':World}{v vi vm ve:Value}{F:Fl}{cm ce:List Value} (h:zy w v F vi vm ve cm ce) (hb:Below w.heap.size w w'):zy w' v F vi vm ve cm ce:=⟨h.is,h.hi.up hb,h.hm.up hb,h.eI.up hb,h.he.up hb,h.ep.up hb⟩
def SI.cl:SI→FuncId
 |.S=>120
 |.M=>124
 |.E=>129
 |.F=>250
 |.FF=>254
 |.R=>257
 |.V=>262
def SI.sb:SI→FuncId
 |.S=>71
 |.M=>74
 |.E=>78
 |.F=>193
 |.FF=>195
 |.R=>198
 |.V=>206
def SI.kc:SI→FuncId
 |.S=>122
 |.M=>126
 |.E=>131
 |.F=>252
 |.FF=>256
 |.R=>259
 |.V=>264
def SI.cmp:SI→FuncId
 |.S=>123
 |.M=>123
 |.E=>123
 |.F=>253
 |.FF=>253
 |.R=>253
 |.V=>253
def SI.kt:SI→TypeId
 |.S=>81
 |.M=>120
 |.E=>124
 |.F=>211
 |.FF=>214
 |.R=>217
 |.V=>224
def SI.xE:SI→Bool
 |.S=>true
 |.M=>true
 |.E=>true
 |.F=>false
 |.FF=>false
 |.R=>false
 |.V=>false
def SI.ls:SI→TypeId
 |.S=>22
 |.M=>23
 |.E=>24
 |.F=>54
 |.FF=>86
 |.R=>55
 |.V=>61
def SI.by:SI→Nat
 |.S=>16
 |.M=>160
 |.E=>88
 |.F=>72
 |.FF=>24
 |.R=>16
 |.V=>24
def SI.z:SI→Value
 |.S=>.string ByteArray.empty
 |.M=>.agg #[.string ByteArray.empty,.slice none 0 0,.slice none 0 0,.slice none 0 0,.slice none 0 0,.slice none 0 0,.slice none 0 0]
 |.E=>.agg #[.string ByteArray.empty,.slice none 0 0,.slice none 0 0,.slice none 0 0]
 |.F=>.agg #[.int .i64 0,.string ByteArray.empty,.string ByteArray.empty,.string ByteArray.empty,.int .i64 0,.int .i64 0]
 |.FF=>.slice none 0 0
 |.R=>.agg #[.int .i64 0,.int .i64 0]
 |.V=>.agg #[.string ByteArray.empty,.int .i64 0]
theorem SI.info (X:SI):(Tryz.prog.info? X.el).map (fun i=>(i.zero,i.size,i.bytes))=some (some X.z,X.k,X.by):=by cases X<;>kernel_rfl
theorem SI.under (X:SI):Tryz.prog.underlying X.ls=some (.slice X.el):=by cases X<;>kernel_rfl
theorem SI.zs (X:SI):X.z.cells.size=X.k∧0<X.k:=by cases X<;>exact ⟨rfl,by decide⟩
theorem vO:∀{x y z:List UInt8},Op.bytesLess x y=true→Op.bytesLess y z=true→Op.bytesLess x z=true
 |x,[],_,h,_=>by cases x<;>simp[Op.bytesLess] at h
 |_,b::y,[],_,k=>by simp[Op.bytesLess] at k
 |[],_::_,_::_,_,_=>by simp[Op.bytesLess]
 |a::x,b::y,c::z,h,k=>by
  simp only[Op.bytesLess,Bool.or_eq_true,decide_eq_true_eq,Bool.and_eq_true,beq_iff_eq] at h k ⊢
  rcases h with h|⟨rfl,h⟩
  ·rcases k with k|⟨rfl,k⟩
   ·exact .inl (UInt8.lt_trans h k)
   ·exact .inl h
  ·rcases k with k|⟨rfl,k⟩
   ·exact .inl k
   ·exact .inr ⟨rfl,vO h k⟩
theorem xZ:∀{x:List UInt8},¬Op.bytesLess x x=true
 |[],h=>by simp[Op.bytesLess] at h
 |a::x,h=>by
  simp only[Op.bytesLess,Bool.or_eq_true,decide_eq_true_eq,Bool.and_eq_true,beq_iff_eq] at h
  rcases h with h|⟨_,h⟩
  ·exact UInt8.lt_irrefl a h
  ·exact xZ h
theorem Bv:∀{x y:List UInt8},¬Op.bytesLess x y=true→¬Op.bytesLess y x=true→x=y
 |[],[],_,_=>rfl
 |[],_::_,h,_=>by simp[Op.bytesLess] at h
 |_::_,[],_,k=>by simp[Op.bytesLess] at k
 |a::x,b::y,h,k=>by
  simp only[Op.bytesLess,Bool.or_eq_true,decide_eq_true_eq,Bool.and_eq_true,beq_iff_eq,not_or,not_and] at h k
  have e:a=b:=UInt8.le_antisymm (UInt8.not_lt.1 k.1) (UInt8.not_lt.1 h.1)
  subst e
  rw[Bv (h.2 rfl) (k.2 rfl)]
theorem Se (x:List UInt8):Op.bytesLess x x=false:=Bool.eq_false_iff.2 xZ
inductive KV
 |S (f:List Value→ByteArray)
 |I (f:List Value→Int)
def KV.xE:KV→Bool
 |.S _=>true
 |.I _=>false
def KV.val:KV→List Value→Value
 |.S f,l=>.string (f l)
 |.I f,l=>.int .i64 (f l)
def KV.lt:KV→List Value→List Value→Bool
 |.S f,x,y=>Op.bytesLess (f x).toList (f y).toList
 |.I f,x,y=>decide (f x<f y)
theorem KV.ord (kv:KV):Ord kv.lt:=by
 cases kv with
 |S f =>
  refine ⟨fun x y h=>?_,fun x y z h k=>?_⟩
  ·cases hc:Op.bytesLess (f y).toList (f x).toList with
   |false=>exact hc
   |true =>
    have:=vO h hc
    rw[Se] at this
    cases this
  ·cases hc:Op.bytesLess (f z).toList (f x).toList with
   |false=>exact hc
   |true =>
    cases h2:Op.bytesLess (f x).toList (f y).toList with
    |true =>
     have:=vO hc h2
     exact absurd this (by simpa[KV.lt] using k)
    |false =>
     have e:=Bv (Bool.eq_false_iff.1 h2) (Bool.eq_false_iff.1 h)
     have hk:Op.bytesLess (f z).toList (f y).toList=false:=k
     rw[←e] at hk
     exact absurd hc (by simp[hk])
 |I f=>exact ⟨fun x y h=>by simp only[KV.lt,decide_eq_true_eq,decide_eq_false_iff_not] at h ⊢;omega,fun x y z h k=>by simp only[KV.lt,decide_eq_false_iff_not] at h k ⊢;omega⟩
theorem NS (X:SI) (kv:KV) (h:kv.xE=X.xE) (W:World) (x y:List Value):Calls Tryz.prog X.cmp #[kv.val x,kv.val y] W fun e w=>(∃r:Int,e=.returned (.int .i64 r)∧decide (r<0)=kv.lt x y)∧W.grownBy w none:=by
 cases kv with
 |S f=>cases X<;>first|exact zh W (f x) (f y)|cases h
 |I f=>cases X<;>first|exact zi W (f x) (f y)|cases h
theorem bB {w w':World} (hb:Below w.heap.size w w'):w.grownBy w' none:=⟨hb.os,hb.tape,hb.output,hb.size,fun k hk _=>hb.block k hk⟩
theorem jK {w w':World} (hb:w.grownBy w' none):Below w.heap.size w w':=⟨hb.os,hb.tape,hb.output,hb.size,fun k hk=>hb.block k hk (by simp)⟩
theorem Rl.le {w:World}{v:Value}{n:Nat}{xs:List Value} (h:Rl w v n xs):n≤140737488355328:=by
 obtain ⟨_,_,_,h,_⟩:=h
 exact h
theorem kk {B B':Nat}{w:World}{e size n:Nat}{v:Value}{xs:List Value} (h:w.ownsRow B e size v n xs) (hb:B'≤B):w.ownsRow B' e size v n xs:=by
 obtain ⟨h1,h|⟨g,cap,cur,rfl,h2,h3⟩⟩:=h
 ·exact ⟨h1,.inl h⟩
 ·exact ⟨h1,.inr ⟨g,cap,cur,rfl,Nat.le_trans hb h2,h3⟩⟩
theorem o4 {P G:World→Prop}{w:World} (h:P w) (k:∀w,P w→G w):G w:=k w h
structure WI (f:FuncId) (fs cp:Array Value) (kv:KV) (Pe:List Value→Prop) (w0:World):Prop where
 ok:∀vs w,(callFunc f vs).run Tryz.prog w=.ok (.enter f vs) w
 wL:∀x w',Below w0.heap.size w0 w'→Pe x→Calls Tryz.prog f (fs.push (fH x)++cp) w' fun e YV=>e=.returned (kv.val x)∧Below w'.heap.size w' YV
theorem E0 {w:World}{B t k n c g:Nat}{L:List (List Value)} (h:w.ownsRow B t k (.slice (some ⟨g,0,none⟩) n c) n L.flatten) (hk:∀l ∈ L,l.length=k) (h1:∀l ∈ L,∀u ∈ l,u.oneCell'=true) :
  ∃rest,Rw w g t k L rest∧B≤g∧g<w.heap.size∧∀w' L',Rw w' g t k L' rest→L'.length=L.length→w'.ownsRow B t k (.slice (some ⟨g,0,none⟩) n c) n L'.flatten:=by
 obtain ⟨e1,⟨h0,_⟩|⟨g',cap,cur,h0,h2,h3,h4,h5,h6,h7⟩⟩:=h
 ·cases h0
 ·injection h0 with a1 a2 a3
  injection a1 with a1
  injection a1 with a1
  subst a1
  subst a3
  have aU:=(zA h3).1
  refine ⟨cur.toList.drop (n*k),⟨?_,hk,h1⟩,h2,aU,fun w' L' h' hl=>?_⟩
  ·rw[h3,←h7,List.take_append_drop]
  ·have e2:L'.flatten.length=n*k:=by rw[vE k L' h'.ln,hl,←vE k L hk,e1]
   refine ⟨e2,.inr ⟨g,c,_,rfl,h2,h'.hp,h4,h5,?_,?_⟩⟩
   ·have:n*k≤c*k:=Nat.mul_le_mul_right k h4
    simp only[List.size_toArray,zK,List.length_drop,Array.length_toList,e2,h6]
    omega
   ·rw[List.toList_toArray,←e2,List.take_left]
end Go.Proofs.YtghioefalckgoaaGreatDoor
namespace Go.Proofs.YtghioefalckgoaaGreatDoor
open Go.RowKit
attribute [local go_sem ↓] Go.wp_at_zero Go.wp_at_succ
theorem Ei (X:SI) (a:Option Addr) (n c:Nat) (W:World):(binOp .eql X.ls (.slice a n c) (.slice none 0 0)).run Tryz.prog W=.ok (.bool a.isNone) W:=by cases X<;>cases a<;>rfl
theorem Ax (X:SI) {W:World}{v:Value}{n:Nat}{L:List (List Value)} (hv:Rl W v n L.flatten) (hn:L.length=n) (hk:∀l ∈ L,l.length=X.k) (h1:∀l ∈ L,∀u ∈ l,u.oneCell'=true) (hb:n*X.by≤140737488355328) (w0:World) (hw:Below W.heap.size W w0) :
  Calls Tryz.prog X.cl #[v] w0 fun e w=>∃u,e=.returned u∧w.ownsRow w0.heap.size X.el X.k u n L.flatten∧Below w0.heap.size w0 w:=by
 obtain ⟨a,c,rfl,hm,h2⟩:=hv
 obtain ⟨i0,hi,fX,gp,fJ⟩:=info_parts X.info
 have hu:=X.under
 obtain ⟨UT,hz4⟩:=X.zs
 have gR:L.flatten.length=n*X.k:=by rw[vE X.k L hk,hn]
 have kS:∀u ∈ L.flatten,u.oneCell'=true:=fun u h=>by
  obtain ⟨l,hl,hu⟩:=List.mem_flatten.1 h
  exact h1 l hl u hu
 let iX:=X
 cases a with
 |none =>
  have cy:n=0:=by
   cases n with
   |zero=>rfl
   |succ m=>obtain ⟨g,o,h,_⟩:=h2 (by omega);cases h
  subst cy
  obtain rfl:L=[]:=List.length_eq_zero_iff.1 hn
  clear hm h2 gR kS hk h1 hb hn
  have q:=Ei X none 0 c w0
  cases X
  all_goals simp only[SI.cl,SI.ls,Option.isNone_none] at q ⊢
  all_goals (first|go_enter Tryz.func120,Tryz.ntmps120|go_enter Tryz.func124,Tryz.ntmps124|go_enter Tryz.func129,Tryz.ntmps129|go_enter Tryz.func250,Tryz.ntmps250|go_enter Tryz.func254,Tryz.ntmps254|go_enter Tryz.func257,Tryz.ntmps257|go_enter Tryz.func262,Tryz.ntmps262)
  all_goals (
   go_wp2
   go_ret
   exact ⟨_,rfl,World.ownsRow_nil _ _ _ _,zE _ _⟩)
 |some ad =>
  have D7:∀j u,L.flatten[j]?=some u→w0.cell? (ad.add j)=some u∧(ad.add j).block<w0.heap.size:=fun j u hj=>by
   have aU:=(zB hj).1
   have cy:0<n:=by
    rcases Nat.eq_zero_or_pos n with h|h
    ·rw[gR,h] at aU;omega
    ·exact h
   obtain ⟨g,o,e,h3,h4⟩:=h2 cy
   cases e
   rw[show (⟨g,o,none⟩:Addr).add j=⟨g,o+j,none⟩ by unfold Addr.add;split<;>simp_all]
   exact ⟨(hw.cell (p:=⟨g,o+j,none⟩) h3).trans (h4 j u hj),Nat.lt_of_lt_of_le h3 hw.size⟩
  have Xm:=ak D7
  have xa:=ak gR
  have aaU:=ak kS
  have Hb:=ak hb
  have Hm:=ak hm
  clear hm h2 gR kS hk h1 hb hn D7 hw
  have q:=Ei X (some ad) n c w0
  cases X
  all_goals simp only[SI.cl,SI.ls,Option.isNone_some] at q ⊢
  all_goals (first|go_enter Tryz.func120,Tryz.ntmps120|go_enter Tryz.func124,Tryz.ntmps124|go_enter Tryz.func129,Tryz.ntmps129|go_enter Tryz.func250,Tryz.ntmps250|go_enter Tryz.func254,Tryz.ntmps254|go_enter Tryz.func257,Tryz.ntmps257|go_enter Tryz.func262,Tryz.ntmps262)
  all_goals (
   go_wp2_with (at_builtin;refine wpList_append_own_at _ rfl _ _ iX.ls rfl w0.heap.size iX.el i0 iX.z iX.k iX.by hu hi fX gp fJ UT hz4 _ 0 [] rfl (World.ownsRow_made w0 #[] 0 (zD _) (Nat.zero_le _) (Nat.zero_mul _).symm) ad n c L.flatten rfl (ab xa) (fun j u hj=>?_) (ab aaU) (by have:=ab Hm;simp only[maxLen];omega) (by rw[Nat.zero_add];exact ab Hb) (by rw[zJ];omega) ?_;rotate_left;intro v' w2 ho cE _ _;rw[Nat.zero_add,List.nil_append] at ho;have HO:=ak ho;have HG:=ak (Below.grown ((zE _ _).alloc (zD _) _) cE (by rw[zJ];omega) (fun k e=>by obtain rfl:=zC e;exact zD _):Below w0.heap.size w0 w2);clear ho cE)
   ·go_ret
    exact ⟨_,rfl,ab HO,ab HG⟩
   ·obtain ⟨h3,h4⟩:=ab Xm j u hj
    exact (((zE w0.heap.size w0).alloc (zD _) _).cell h4).trans h3)
theorem Qw (X:SI) {w0 w1:World}{f:FuncId}{fs cp:Array Value}{kv:KV}{Pe:List Value→Prop}{b g tk:Nat} (hK:WI f fs cp kv Pe w0) (hs:kv.xE=X.xE) (TB:∀x,Pe x→x.length=X.k∧∀u ∈ x,u.oneCell'=true) (hB:Below w0.heap.size w0 w1) (hb:w1.heap[b]?=some (.cells #[.func (.func f) fs cp] tk (0,0))) (GP:b≠g) (hg:w0.heap.size≤g) :
  zQ Tryz.prog X.kc #[] #[.pointer (some ⟨b,0,none⟩)] kv.lt Pe w1 g:=by
 refine ⟨fun vs w=>by cases X<;>kernel_rfl,fun x y w' bG hx hy=>?_⟩
 have D8:=(zA hb).1
 have LB:w'.heap[b]?=some (.cells #[.func (.func f) fs cp] tk (0,0)):=(bG.block b D8 (by simpa using GP)).trans hb
 have BT:Below w0.heap.size w0 w':=hB.grown bG hB.size (fun k e=>by obtain rfl:=zC e;exact hg)
 have hC:=fun W=>ak (NS X kv hs W x y)
 have HK:=ak hK
 have PQ:=ak BT
 have Hx:=ak hx
 have Hy:=ak hy
 obtain ⟨lx,ox⟩:=TB x hx
 obtain ⟨ly,oy⟩:=TB y hy
 have ex:=qd ox
 have ey:=qd oy
 let iX:=X
 let tY:=X.el
 let kY:=X.k
 have HRx:Hid (∀(w:World) (g':Nat),w.heap[g']?=some (.cells (fH x).cells tY (0,0))→Rw w g' tY kY [x] []):=fun w g' h=>⟨by rw[h,ex];simp,fun l h=>by simp at h;rw[h];exact lx,fun l h=>by simp at h;rw[h];exact ox⟩
 have HRy:Hid (∀(w:World) (g':Nat),w.heap[g']?=some (.cells (fH y).cells tY (0,0))→Rw w g' tY kY [y] []):=fun w g' h=>⟨by rw[h,ey];simp,fun l h=>by simp at h;rw[h];exact ly,fun l h=>by simp at h;rw[h];exact oy⟩
 obtain ⟨qx,XO⟩:∃q,fH x=q:=⟨_,rfl⟩
 obtain ⟨qy,XN⟩:∃q,fH y=q:=⟨_,rfl⟩
 rw[XO,XN]
 clear hK hx hy hb D8 hB BT bG hs lx ly ox oy ex ey TB hg GP
 cases X
 all_goals simp only[SI.kc]
 all_goals (first|go_enter Tryz.func122,Tryz.ntmps122|go_enter Tryz.func126,Tryz.ntmps126|go_enter Tryz.func131,Tryz.ntmps131|go_enter Tryz.func252,Tryz.ntmps252|go_enter Tryz.func256,Tryz.ntmps256|go_enter Tryz.func259,Tryz.ntmps259|go_enter Tryz.func264,Tryz.ntmps264)
 case S|FF =>
  all_goals (
   go_upto_region 1 with fail
   refine wp_region_any (by kernel_rfl) (aV (z:=99) (T:=fun w:World=>w.cell? ⟨b,0,none⟩=some (.func (.func f) fs cp)∧w'.grownBy w none) _ _ _ _ ?_)
   try (change ba _ _ _ _ _ _ _ _ _ (World.drew _))
   have hT:(fun w:World=>w.cell? ⟨b,0,none⟩=some (.func (.func f) fs cp)∧w'.grownBy w none) w'.drew:=⟨(cell_of_row _ _ _ _ _ _ LB).trans rfl,⟨rfl,rfl,rfl,zD _,fun _ _ _=>rfl⟩⟩
   rw[←XO,←XN]
   refine o4 (P:=fun w:World=>w.cell? ⟨b,0,none⟩=some (.func (.func f) fs cp)∧w'.grownBy w none) (G:=fun w=>ba _ _ _ _ _ _ _ _ _ w) hT (fun wd hT=>?_)
   refine aw 0 (.func (.func f) fs cp) 6 rfl rfl (Or.inl ⟨by rfl,fun w hw=>by first|go_simp|(have hc:=hw.1;go_simp)⟩) hT ?_
   simp only[Act.put,zL,zM,zN]
   refine aw 1 (fH x) 7 rfl rfl (Or.inl ⟨by rfl,fun w hw=>by first|go_simp|(have hc:=hw.1;go_simp)⟩) hT ?_
   simp only[Act.put,zL,zM,zN]
   refine aw 3 (.func (.func f) fs cp) 9 rfl rfl (Or.inl ⟨by rfl,fun w hw=>by first|go_simp|(have hc:=hw.1;go_simp)⟩) hT ?_
   simp only[Act.put,zL,zM,zN]
   refine aw 4 (fH y) 10 rfl rfl (Or.inl ⟨by rfl,fun w hw=>by first|go_simp|(have hc:=hw.1;go_simp)⟩) hT ?_
   simp only[Act.put,zL,zM,zN]
   refine aB 2 (by kernel_rfl) rfl (fun K hK=>?_)
   refine bX 8 6 rfl f fs cp (fun vs=>(ab HK).ok vs wd) #[.tmp 7] _ rfl (by first|rfl|simp[Act.eval]) (fs++#[fH x]++cp) (by first|rfl|simp[Act.eval]) ((ab HK).wL x wd ((ab PQ).trans ((jK hT.2).mono (ab PQ).size)) (ab Hx)) (by rfl) ?_
   rintro e w1 ⟨rfl,aY⟩
   refine ⟨_,rfl,?_⟩
   have bG:=bB aY
   have bL:(fun w:World=>w.cell? ⟨b,0,none⟩=some (.func (.func f) fs cp)∧w'.grownBy w none) w1:=⟨bG.cell hT.1 (by simp),hT.2.trans bG⟩
   refine hK _ _ ⟨fun _=>bL,?_⟩
   clear hK K hT aY bG
   have hT:=bL
   clear bL
   simp only[Act.put,zL,zM,zN]
   refine aB 5 (by kernel_rfl) rfl (fun K hK=>?_)
   refine bX 11 9 rfl f fs cp (fun vs=>(ab HK).ok vs w1) #[.tmp 10] _ rfl (by first|rfl|simp[Act.eval]) (fs++#[fH y]++cp) (by first|rfl|simp[Act.eval]) ((ab HK).wL y w1 ((ab PQ).trans ((jK hT.2).mono (ab PQ).size)) (ab Hy)) (by rfl) ?_
   rintro e w2 ⟨rfl,aY⟩
   refine ⟨_,rfl,?_⟩
   have bG:=bB aY
   have bL:(fun w:World=>w.cell? ⟨b,0,none⟩=some (.func (.func f) fs cp)∧w'.grownBy w none) w2:=⟨bG.cell hT.1 (by simp),hT.2.trans bG⟩
   refine hK _ _ ⟨fun _=>bL,?_⟩
   clear hK K hT aY bG
   have hT:=bL
   clear bL
   simp only[Act.put,zL,zM,zN]
   refine aB 6 (by kernel_rfl) rfl (fun K hK=>?_)
   refine aM 12 rfl rfl iX.cmp (fun vs=>by kernel_rfl) #[.tmp 8,.tmp 11] _ rfl #[kv.val x,kv.val y] (by first|rfl|simp[Act.eval]) (ab (hC w2)) ?_
   rintro e w3 ⟨⟨r,rfl,hr⟩,bG⟩
   refine ⟨_,rfl,?_⟩
   have bL:(fun w:World=>w.cell? ⟨b,0,none⟩=some (.func (.func f) fs cp)∧w'.grownBy w none) w3:=⟨bG.cell hT.1 (by simp),hT.2.trans bG⟩
   refine hK _ _ ⟨fun _=>bL,?_⟩
   clear hK K hT bG
   have hT:=bL
   clear bL
   simp only[Act.put,zL,zM,zN]
   refine aw 7 (.int .i64 r) 5 rfl rfl (Or.inl ⟨by rfl,fun w hw=>by first|go_simp|(have hc:=hw.1;go_simp)⟩) hT ?_
   simp only[Act.put,zL,zM,zN]
   refine aQ (by kernel_rfl) ?_
   have HG:=ak hT.2
   have HR:=ak hr
   clear hT hr
   go_wp2
   go_ret
   exact ⟨⟨r,rfl,ab HR⟩,ab HG⟩)
 all_goals (
  go_upto_region 1 with fail
  refine wp_region_any (by kernel_rfl) (aV (z:=99) (T:=fun w:World=>w.cell? ⟨b,0,none⟩=some (.func (.func f) fs cp)∧w'.grownBy w none∧Rw w w'.heap.size tY kY [x] []∧Rw w (w'.heap.size+1) tY kY [y] []) _ _ _ _ ?_)
  try (change ba _ _ _ _ _ _ _ _ _ (World.drew _))
  have k1:=aE w' (.cells qx.cells tY)
  have k2:=aE (w'.alloc (.cells qx.cells tY)) (.cells qy.cells tY)
  rw[zJ] at k2
  have k0:w'.grownBy ((w'.alloc (.cells qx.cells tY)).alloc (.cells qy.cells tY)) none:=(World.grownBy_alloc w' _ none).trans (World.grownBy_alloc _ _ none)
  have k3:=(World.grownBy_alloc (w'.alloc (.cells qx.cells tY)) (.cells qy.cells tY) none).block w'.heap.size (by rw[zJ];omega) (by simp)
  have hT:(fun w:World=>w.cell? ⟨b,0,none⟩=some (.func (.func f) fs cp)∧w'.grownBy w none∧Rw w w'.heap.size tY kY [x] []∧Rw w (w'.heap.size+1) tY kY [y] []) (((w'.alloc (.cells qx.cells tY)).alloc (.cells qy.cells tY)).drew):=⟨(cell_of_row _ _ _ _ _ _ ((k0.block b (zA LB).1 (by simp)).trans LB)).trans rfl,⟨k0.os,k0.tape,k0.output,k0.size,k0.block⟩,ab HRx _ _ (by rw[XO];exact k3.trans k1),ab HRy _ _ (by rw[XN];exact k2)⟩
  rw[←XO,←XN] at hT ⊢
  refine o4 (P:=fun w:World=>w.cell? ⟨b,0,none⟩=some (.func (.func f) fs cp)∧w'.grownBy w none∧Rw w w'.heap.size tY kY [x] []∧Rw w (w'.heap.size+1) tY kY [y] []) (G:=fun w=>ba _ _ _ _ _ _ _ _ _ w) hT (fun wd hT=>?_)
  refine aw 0 (.func (.func f) fs cp) 6 rfl rfl (Or.inl ⟨by rfl,fun w hw=>by first|go_simp|(have hc:=hw.1;go_simp)⟩) hT ?_
  simp only[Act.put,zL,zM,zN]
  refine aw 1 (fH x) 7 rfl rfl (Rw.val tY (.tmp 3) rfl (by rfl) (by first|rfl|simp[Act.eval]) (T:=fun w:World=>w.cell? ⟨b,0,none⟩=some (.func (.func f) fs cp)∧w'.grownBy w none∧Rw w w'.heap.size tY kY [x] []∧Rw w (w'.heap.size+1) tY kY [y] []) (i:=0) (fun w hw=>hw.2.2.1) rfl (by rfl) (fun _=>by rfl)) hT ?_
  simp only[Act.put,zL,zM,zN]
  refine aw 3 (.func (.func f) fs cp) 9 rfl rfl (Or.inl ⟨by rfl,fun w hw=>by first|go_simp|(have hc:=hw.1;go_simp)⟩) hT ?_
  simp only[Act.put,zL,zM,zN]
  refine aw 4 (fH y) 10 rfl rfl (Rw.val tY (.tmp 4) rfl (by rfl) (by first|rfl|simp[Act.eval]) (T:=fun w:World=>w.cell? ⟨b,0,none⟩=some (.func (.func f) fs cp)∧w'.grownBy w none∧Rw w w'.heap.size tY kY [x] []∧Rw w (w'.heap.size+1) tY kY [y] []) (i:=0) (fun w hw=>hw.2.2.2) rfl (by rfl) (fun _=>by rfl)) hT ?_
  simp only[Act.put,zL,zM,zN]
  refine aB 2 (by kernel_rfl) rfl (fun K hK=>?_)
  refine bX 8 6 rfl f fs cp (fun vs=>(ab HK).ok vs wd) #[.tmp 7] _ rfl (by first|rfl|simp[Act.eval]) (fs++#[fH x]++cp) (by first|rfl|simp[Act.eval]) ((ab HK).wL x wd ((ab PQ).trans ((jK hT.2.1).mono (ab PQ).size)) (ab Hx)) (by rfl) ?_
  rintro e w1 ⟨rfl,aY⟩
  refine ⟨_,rfl,?_⟩
  have bG:=bB aY
  have bL:(fun w:World=>w.cell? ⟨b,0,none⟩=some (.func (.func f) fs cp)∧w'.grownBy w none∧Rw w w'.heap.size tY kY [x] []∧Rw w (w'.heap.size+1) tY kY [y] []) w1:=⟨bG.cell hT.1 (by simp),hT.2.1.trans bG,hT.2.2.1.up bG,hT.2.2.2.up bG⟩
  refine hK _ _ ⟨fun _=>bL,?_⟩
  clear hK K hT aY bG
  have hT:=bL
  clear bL
  simp only[Act.put,zL,zM,zN]
  refine aB 5 (by kernel_rfl) rfl (fun K hK=>?_)
  refine bX 11 9 rfl f fs cp (fun vs=>(ab HK).ok vs w1) #[.tmp 10] _ rfl (by first|rfl|simp[Act.eval]) (fs++#[fH y]++cp) (by first|rfl|simp[Act.eval]) ((ab HK).wL y w1 ((ab PQ).trans ((jK hT.2.1).mono (ab PQ).size)) (ab Hy)) (by rfl) ?_
  rintro e w2 ⟨rfl,aY⟩
  refine ⟨_,rfl,?_⟩
  have bG:=bB aY
  have bL:(fun w:World=>w.cell? ⟨b,0,none⟩=some (.func (.func f) fs cp)∧w'.grownBy w none∧Rw w w'.heap.size tY kY [x] []∧Rw w (w'.heap.size+1) tY kY [y] []) w2:=⟨bG.cell hT.1 (by simp),hT.2.1.trans bG,hT.2.2.1.up bG,hT.2.2.2.up bG⟩
  refine hK _ _ ⟨fun _=>bL,?_⟩
  clear hK K hT aY bG
  have hT:=bL
  clear bL
  simp only[Act.put,zL,zM,zN]
  refine aB 6 (by kernel_rfl) rfl (fun K hK=>?_)
  refine aM 12 rfl rfl iX.cmp (fun vs=>by kernel_rfl) #[.tmp 8,.tmp 11] _ rfl #[kv.val x,kv.val y] (by first|rfl|simp[Act.eval]) (ab (hC w2)) ?_
  rintro e w3 ⟨⟨r,rfl,hr⟩,bG⟩
  refine ⟨_,rfl,?_⟩
  have bL:(fun w:World=>w.cell? ⟨b,0,none⟩=some (.func (.func f) fs cp)∧w'.grownBy w none∧Rw w w'.heap.size tY kY [x] []∧Rw w (w'.heap.size+1) tY kY [y] []) w3:=⟨bG.cell hT.1 (by simp),hT.2.1.trans bG,hT.2.2.1.up bG,hT.2.2.2.up bG⟩
  refine hK _ _ ⟨fun _=>bL,?_⟩
  clear hK K hT bG
  have hT:=bL
  clear bL
  simp only[Act.put,zL,zM,zN]
  refine aw 7 (.int .i64 r) 5 rfl rfl (Or.inl ⟨by rfl,fun w hw=>by first|go_simp|(have hc:=hw.1;go_simp)⟩) hT ?_
  simp only[Act.put,zL,zM,zN]
  refine aQ (by kernel_rfl) ?_
  have HG:=ak hT.2.1
  have HR:=ak hr
  clear hT hr
  go_wp2
  go_ret
  exact ⟨⟨r,rfl,ab HR⟩,ab HG⟩)
end Go.Proofs.YtghioefalckgoaaGreatDoor

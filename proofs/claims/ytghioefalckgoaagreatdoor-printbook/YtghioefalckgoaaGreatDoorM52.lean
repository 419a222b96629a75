import Derived.Test.YtghioefalckgoaaGreatDoorQxB
import Derived.OpenShut
import Derived.Deep.Slices
import Derived.SizedLaws
import Derived.Test.YtghioefalckgoaaGreatDoorRows
import Derived.Lib.LaidU8
import Derived.ProofKit
import Derived.Test.YtghioefalckgoaaGreatDoorCards
import Derived.Test.YtghioefalckgoaaGreatDoorTie
import Derived.Deep.DeepHandedRow
import Derived.JoinedCond
set_option maxRecDepth 100000
namespace Go.Proofs.YtghioefalckgoaaGreatDoor
open Go.ChangeShapes Go.WideShapes Go.RowKit
theorem mS {H:Type}{P:Program}{t:TypeId}{d:DataW H}{n:Nat} (hn:n ∈ d.weights P t):∀{l:List (DataW H)},d ∈ l→n ∈ DataW.weightsAll P t l
 |[],h=>by simp at h
 |e::r,h=>by
  simp only[DataW.weightsAll,List.mem_append]
  rcases List.mem_cons.1 h with rfl|h
  ·exact .inl hn
  ·exact .inr (mS hn h)
def Gl {H:Type} (t:TypeId) (d:DataW H):Prop:=∀n ∈ d.weights Tryz.prog t,n≤140737488351232
theorem Ee {k:Nat}{x:Value}:∀(L:List (List Value)) (j:Nat),(∀cs ∈ L,cs.length=k)→L.flatten[j]?=some x→∃i r cs,j=i*k+r∧L[i]?=some cs∧cs[r]?=some x
 |[],j,_,h=>by simp at h
 |c::L,j,hk,h=>by
  rw[List.flatten_cons] at h
  have hc:=hk c (List.mem_cons_self ..)
  by_cases hj:j<c.length
  ·rw[List.getElem?_append_left hj] at h
   exact ⟨0,j,c,by omega,rfl,h⟩
  ·rw[List.getElem?_append_right (by omega)] at h
   obtain ⟨i,r,cs,h1,h2,h3⟩:=Ee L _ (fun cs lN=>hk cs (zF _ lN)) h
   exact ⟨i+1,r,cs,by rw[Nat.succ_mul];omega,h2,h3⟩
section
variable {H : Type} {enc : TypeId × Value → H} {w : World} {base : Nat} {spare : Nat → Bool} {held : Bool}
def K6 (enc:TypeId×Value→H) (w:World) (base:Nat) (spare:Nat→Bool) (held:Bool) (fuel te k:Nat) (cs:List Value):Prop:=∃m y,m<fuel∧cs.length=k∧DataW.trod enc Tryz.prog w base spare held m te cs=some y∧Gl te y.1
theorem kN {fuel ts te k b:Nat} (hu:Tryz.prog.underlying ts=some (.slice te)) (hk:Tryz.prog.cellsOf te=k) (hb:Tryz.prog.bytesOf te=b) (hk0:0<k) (bq:0<b) {v:Value}{x:DataW H×List MemPlace} (h:DataW.trod enc Tryz.prog w base spare held fuel ts [v]=some x) (hw:Gl ts x.1) :
  ∃L:List (List Value),Rl w v L.length L.flatten∧L.length*b≤140737488351232∧∀cs ∈ L,K6 enc w base spare held fuel te k cs:=by
 rcases DataW.trod_slice hu h with ⟨lN,rfl⟩|⟨y,len,cap,elems,rest,n,rfl,lN,rfl,_,hl,hm,hel,mQ,_,_⟩
 ·obtain rfl:v=.slice none 0 0:=by simpa using lN
  exact ⟨[],lj _ _,by simp,fun cs h=>by simp at h⟩
 ·obtain rfl:v=.slice (some y) len cap:=by simpa using lN
  have each:∀i,i<len→∃cs:List Value,w.cells? base (y.add (i*k)) k=some cs∧K6 enc w base spare held (n+1) te k cs:=by
   intro i hi
   have q:=mQ i hi
   rw[hk] at q
   have hei:elems[i]?=some elems[i]:=List.getElem?_eq_getElem (by omega)
   rw[hei] at q
   obtain ⟨cs,h1,h2⟩:=Option.bind_eq_some_iff.1 q
   refine ⟨cs,h1,n,elems[i],by omega,(World.cells?_some h1).2.1,h2,fun z hz=>hw z ?_⟩
   simp only[DataW.weights,hu]
   exact zF _ (List.mem_append_left _ (mS hz (List.mem_map.2 ⟨_,List.getElem_mem _,rfl⟩)))
  obtain ⟨q,hq⟩:=Go.Deep.choose_lt each
  have hn:len*b≤140737488351232:=by
   have:=hw ((elems.map (·.1)).length*b+(rest.map (·.1)).length*b) (by
    simp only[DataW.weights,hu,hb]
    rw[←Nat.add_mul]
    exact List.mem_cons_self ..)
   rw[List.length_map,hel] at this
   omega
  have hlen:((List.range len).map q).length=len:=by simp
  have Fx:∀cs ∈ (List.range len).map q,K6 enc w base spare held (n+1) te k cs:=by
   intro cs lN
   obtain ⟨i,hi,rfl⟩:=List.mem_map.1 lN
   exact (hq i (List.mem_range.1 hi)).2
  refine ⟨(List.range len).map q,⟨some y,cap,by rw[hlen],by rw[hlen];have:=Nat.le_mul_of_pos_right len bq;omega,fun hp=>?_⟩,by rw[hlen];exact hn,Fx⟩
  rw[hlen] at hp
  have h0:w.cell? ((y.add (0*k)).add 0)=some _:=((World.cells?_some (hq 0 hp).1).2.2 0 hk0).trans (List.getElem?_eq_getElem (by rw[(World.cells?_some (hq 0 hp).1).2.1];exact hk0))
  obtain ⟨g,o,spot⟩:=y
  have U9:spot=none:=by simpa[Addr.add] using World.cell?_spot h0
  subst U9
  have hg:g<w.heap.size:=by
   rw[Go.Deep.add_add,Go.WideShapes.add_plain] at h0
   exact World.block_lt_of_cell? w _ h0
  refine ⟨g,o,rfl,hg,fun j x hx=>?_⟩
  obtain ⟨i,r,cs,rfl,h2,h3⟩:=Ee (k:=k) _ j (fun cs lN=>(Fx cs lN).choose_spec.choose_spec.2.1) hx
  rw[List.getElem?_map] at h2
  obtain ⟨i',Fy,rfl⟩:=Option.map_eq_some_iff.1 h2
  obtain ⟨hi,rfl⟩:i<len∧i=i':=by
   have hi:=(zB Fy).1
   rw[List.length_range] at hi
   rw[List.getElem?_range hi] at Fy
   exact ⟨hi,zC Fy⟩
  have hr:=(zB h3).1
  rw[(World.cells?_some (hq i hi).1).2.1] at hr
  have h4:=(World.cells?_some (hq i hi).1).2.2 r hr
  rw[Go.WideShapes.add_plain,Go.WideShapes.add_plain] at h4
  rw[←Nat.add_assoc,h4,h3]
theorem kP {α:Type} (f:α→List Value) (Q:α→Prop):∀(L:List (List Value)),(∀cs ∈ L,∃a,cs=f a∧Q a)→∃l:List α,L.flatten=l.flatMap f∧L.length=l.length∧∀a ∈ l,Q a
 |[],_=>⟨[],rfl,rfl,fun a h=>by simp at h⟩
 |c::L,h=>by
  obtain ⟨a,rfl,ha⟩:=h c (List.mem_cons_self ..)
  obtain ⟨l,h1,h2,h3⟩:=kP f Q L (fun cs lN=>h cs (zF _ lN))
  refine ⟨a::l,by rw[List.flatten_cons,List.flatMap_cons,h1],by rw[List.length_cons,List.length_cons,h2],fun x hx=>?_⟩
  rcases List.mem_cons.1 hx with rfl|hx
  ·exact ha
  ·exact h3 x hx
theorem Di:Tryz.prog.cellsOf 3=1:=by kernel_rfl
theorem qh:Tryz.prog.cellsOf 9=1:=by kernel_rfl
theorem zp:Tryz.prog.cellsOf 22=1:=by kernel_rfl
theorem KD:Tryz.prog.cellsOf 55=1:=by kernel_rfl
theorem Sb:Tryz.prog.cellsOf 54=1:=by kernel_rfl
theorem Sa:Tryz.prog.cellsOf 61=1:=by kernel_rfl
theorem KF:Tryz.prog.cellsOf 24=1:=by kernel_rfl
theorem KE:Tryz.prog.cellsOf 23=1:=by kernel_rfl
theorem xo:∀l:List ByteArray,l.flatMap (fun s:ByteArray=>[Value.string s])=bj l
 |[]=>rfl
 |a::l=>by rw[List.flatMap_cons,xo l];rfl
theorem mD {fuel:Nat}{v:Value}{x:DataW H×List MemPlace} (h:DataW.trod enc Tryz.prog w base spare held fuel 22 [v]=some x) (hw:Gl 22 x.1) :
  ∃l:List ByteArray,Rl w v l.length (bj l)∧l.length*16≤140737488351232:=by
 obtain ⟨L,h1,h2,h3⟩:=kN (k:=1) (b:=16) Tryz.underlying22 qh (by kernel_rfl) (by omega) (by omega) h hw
 obtain ⟨l,e1,e2,-⟩:=kP (fun s:ByteArray=>[Value.string s]) (fun _=>True) L (fun cs lN=>by
  obtain ⟨m,y,-,-,q,-⟩:=h3 cs lN
  obtain ⟨s,rfl,-,-⟩:=DataW.trod_string Tryz.underlying9 q
  exact ⟨s,rfl,trivial⟩)
 rw[e1,e2,xo] at h1
 exact ⟨l,h1,by omega⟩
theorem AO {fuel:Nat}{v:Value}{x:DataW H×List MemPlace} (h:DataW.trod enc Tryz.prog w base spare held fuel 55 [v]=some x) (hw:Gl 55 x.1) :
  ∃l:List (Int×Int),Rl w v l.length (eP l)∧l.length*16≤140737488351232:=by
 obtain ⟨L,h1,h2,h3⟩:=kN (k:=2) (b:=16) Tryz.underlying55 (by kernel_rfl) (by kernel_rfl) (by omega) (by omega) h hw
 obtain ⟨l,e1,e2,-⟩:=kP (fun p:Int×Int=>[Value.int .i64 p.1,.int .i64 p.2]) (fun _=>True) L (fun cs lN=>by
  obtain ⟨m,y,-,hl,q,-⟩:=h3 cs lN
  obtain ⟨xs,k,-,-,-,CI,hf⟩:=DataW.trod_struct Tryz.underlying83 q
  match xs,CI,cs,hl with
  |[y0,y1],_,[v0,v1],_ =>
   have g0:=hf 0 _ rfl
   have g1:=hf 1 _ rfl
   simp[Di] at g0 g1
   obtain ⟨n0,e0,-,-⟩:=DataW.trod_int Tryz.underlying3 g0
   obtain ⟨n1,e1,-,-⟩:=DataW.trod_int Tryz.underlying3 g1
   simp at e0 e1
   subst e0 e1
   exact ⟨(n0,n1),rfl,trivial⟩)
 rw[e1,e2] at h1
 exact ⟨l,h1,by omega⟩
theorem IY {fuel:Nat}{v:Value}{x:DataW H×List MemPlace} (h:DataW.trod enc Tryz.prog w base spare held fuel 61 [v]=some x) (hw:Gl 61 x.1) :
  ∃l:List (ByteArray×Int),Rl w v l.length (mR l)∧l.length*24≤140737488351232:=by
 obtain ⟨L,h1,h2,h3⟩:=kN (k:=2) (b:=24) Tryz.underlying61 (by kernel_rfl) (by kernel_rfl) (by omega) (by omega) h hw
 obtain ⟨l,e1,e2,-⟩:=kP (fun p:ByteArray×Int=>[Value.string p.1,.int .i64 p.2]) (fun _=>True) L (fun cs lN=>by
  obtain ⟨m,y,-,hl,q,-⟩:=h3 cs lN
  obtain ⟨xs,k,-,-,-,CI,hf⟩:=DataW.trod_struct Tryz.underlying65 q
  match xs,CI,cs,hl with
  |[y0,y1],_,[v0,v1],_ =>
   have g0:=hf 0 _ rfl
   have g1:=hf 1 _ rfl
   simp[Di,qh] at g0 g1
   obtain ⟨n0,e0,-,-⟩:=DataW.trod_string Tryz.underlying9 g0
   obtain ⟨n1,e1,-,-⟩:=DataW.trod_int Tryz.underlying3 g1
   simp at e0 e1
   subst e0 e1
   exact ⟨(n0,n1),rfl,trivial⟩)
 rw[e1,e2] at h1
 exact ⟨l,h1,by omega⟩
theorem I0 {fuel:Nat}{v:Value}{x:DataW H×List MemPlace} (h:DataW.trod enc Tryz.prog w base spare held fuel 54 [v]=some x) (hw:Gl 54 x.1) :
  ∃l:List Fd,Rl w v l.length (cC l)∧l.length*72≤140737488351232∧∀d ∈ l,d.ty.size≤140737488351232:=by
 obtain ⟨L,h1,h2,h3⟩:=kN (k:=6) (b:=72) Tryz.underlying54 (by kernel_rfl) (by kernel_rfl) (by omega) (by omega) h hw
 obtain ⟨l,e1,e2,e3⟩:=kP Fd.cs (fun d=>d.ty.size≤140737488351232) L (fun cs lN=>by
  obtain ⟨m,y,-,hl,q,hy⟩:=h3 cs lN
  obtain ⟨xs,k,-,mP,-,CI,hf⟩:=DataW.trod_struct Tryz.underlying53 q
  match xs,CI,cs,hl with
  |[y0,y1,y2,y3,y4,y5],_,[v0,v1,v2,v3,v4,v5],_ =>
   have g0:=hf 0 _ rfl
   have g1:=hf 1 _ rfl
   have g2:=hf 2 _ rfl
   have g3:=hf 3 _ rfl
   have g4:=hf 4 _ rfl
   have g5:=hf 5 _ rfl
   simp[Di,qh] at g0 g1 g2 g3 g4 g5
   obtain ⟨n0,e0,-,-⟩:=DataW.trod_int Tryz.underlying3 g0
   obtain ⟨n1,e1,-,-⟩:=DataW.trod_string Tryz.underlying9 g1
   obtain ⟨n2,e2,f2,-⟩:=DataW.trod_string Tryz.underlying9 g2
   obtain ⟨n3,e3,-,-⟩:=DataW.trod_string Tryz.underlying9 g3
   obtain ⟨n4,e4,-,-⟩:=DataW.trod_int Tryz.underlying3 g4
   obtain ⟨n5,e5,-,-⟩:=DataW.trod_int Tryz.underlying3 g5
   simp at e0 e1 e2 e3 e4 e5
   subst e0 e1 e2 e3 e4 e5
   refine ⟨⟨n0,n1,n2,n3,n4,n5⟩,rfl,?_⟩
   refine hy _ ?_
   rw[mP,f2]
   simp only[List.map_cons,DataW.weights,Tryz.underlying53]
   simp[DataW.weightsEach,DataW.weights])
 rw[e1,e2] at h1
 exact ⟨l,h1,by omega,e3⟩
def aaZ (w:World) (cs:List Value) (e:En):Prop:=∃vv vr vg,cs=[.string e.name,vv,vr,vg]∧Rl w vv e.aW.length (mR e.aW)∧Rl w vr e.res.length (eP e.res)∧Rl w vg e.gone.length (bj e.gone)∧LK e
theorem DX:∀(L:List (List Value)),(∀cs ∈ L,∃e,aaZ w cs e)→∃l:List En,qV w L.flatten l∧L.length=l.length∧∀e ∈ l,LK e
 |[],_=>⟨[],.nil,rfl,fun a h=>by simp at h⟩
 |c::L,h=>by
  obtain ⟨e,vv,vr,vg,rfl,a1,a2,a3,a4⟩:=h c (List.mem_cons_self ..)
  obtain ⟨l,h1,h2,h3⟩:=DX L (fun cs lN=>h cs (zF _ lN))
  refine ⟨e::l,.cons a1 a2 a3 h1,by rw[List.length_cons,List.length_cons,h2],fun x hx=>?_⟩
  rcases List.mem_cons.1 hx with rfl|hx
  ·exact a4
  ·exact h3 x hx
theorem AP {fuel:Nat}{v:Value}{x:DataW H×List MemPlace} (h:DataW.trod enc Tryz.prog w base spare held fuel 24 [v]=some x) (hw:Gl 24 x.1) :
  ∃(l:List En) (cs:List Value),Rl w v l.length cs∧qV w cs l∧l.length*88≤140737488351232∧∀e ∈ l,LK e:=by
 obtain ⟨L,h1,h2,h3⟩:=kN (k:=4) (b:=88) Tryz.underlying24 (by kernel_rfl) (by kernel_rfl) (by omega) (by omega) h hw
 obtain ⟨l,e1,e2,e3⟩:=DX (w:=w) L (fun cs lN=>by
  obtain ⟨m,y,-,hl,q,hy⟩:=h3 cs lN
  obtain ⟨xs,k,-,mP,-,CI,hf⟩:=DataW.trod_struct Tryz.underlying63 q
  match xs,CI,cs,hl with
  |[y0,y1,y2,y3],_,[v0,v1,v2,v3],_ =>
   have g0:=hf 0 _ rfl
   have g1:=hf 1 _ rfl
   have g2:=hf 2 _ rfl
   have g3:=hf 3 _ rfl
   simp[qh,zp,KD,Sa] at g0 g1 g2 g3
   unfold Gl at hy
   rw[mP] at hy
   simp only[List.map_cons,List.map_nil,DataW.weights,Tryz.underlying63] at hy
   simp[DataW.weightsEach] at hy
   obtain ⟨n0,e0,-,-⟩:=DataW.trod_string Tryz.underlying9 g0
   obtain ⟨l1,a1,b1⟩:=IY g1 (fun n hn=>hy n (.inr (.inl hn)))
   obtain ⟨l2,a2,b2⟩:=AO g2 (fun n hn=>hy n (.inr (.inr (.inl hn))))
   obtain ⟨l3,a3,b3⟩:=mD g3 (fun n hn=>hy n (.inr (.inr (.inr hn))))
   simp at e0
   subst e0
   exact ⟨⟨n0,l1,l2,l3⟩,v1,v2,v3,rfl,a1,a2,a3,by show l1.length*24≤_;omega,by show l2.length*16≤_;omega,by show l3.length*16≤_;omega⟩)
 rw[e2] at h1 h2
 exact ⟨l,_,h1,e1,h2,e3⟩
def aaO (w:World) (cs:List Value) (m:Ms):Prop:=∃vf vo vm ve vr vg nm fs os ms es rs gs cm ce,cs=[.string nm,vf,vo,vm,ve,vr,vg]∧WH w m vf vo vm ve vr vg nm fs os ms es rs gs cm ce∧∀f,Dk f m∧wm f m
theorem DW:∀(L:List (List Value)),(∀cs ∈ L,∃m,aaO w cs m)→∃l:List Ms,nS w L.flatten l∧L.length=l.length∧∀m ∈ l,∀f,Dk f m∧wm f m
 |[],_=>⟨[],.nil,rfl,fun a h=>by simp at h⟩
 |c::L,h=>by
  obtain ⟨m,vf,vo,vm,ve,vr,vg,nm,fs,os,ms,es,rs,gs,cm,ce,rfl,hV,ha⟩:=h c (List.mem_cons_self ..)
  obtain ⟨l,h1,h2,h3⟩:=DW L (fun cs lN=>h cs (zF _ lN))
  obtain rfl:=hV.is
  refine ⟨_::l,.cons hV.hf hV.ho hV.hm hV.eI hV.he hV.ep hV.hr hV.hg h1,by rw[List.length_cons,List.length_cons,h2],fun x hx=>?_⟩
  rcases List.mem_cons.1 hx with rfl|hx
  ·exact ha
  ·exact h3 x hx
theorem Ql {nm:ByteArray}{fs:List Fd}{os:List ByteArray}{ms:List Ms}{es:List En}{rs:List (Int×Int)}{gs:List ByteArray} (h:Sy fs os ms es rs gs) (hf:∀d ∈ fs,d.ty.size≤281474976710656) (hm:∀m ∈ ms,∀f,Dk f m∧wm f m):∀f,Dk f (.mk nm fs os ms es rs gs)∧wm f (.mk nm fs os ms es rs gs)
 |0=>⟨h,trivial⟩
 |f+1=>⟨⟨h,fun m ma=>(hm m ma f).1⟩,⟨hf,fun m ma=>(hm m ma f).2⟩⟩
theorem IZ:∀(fuel:Nat) (v:Value) (x:DataW H×List MemPlace),DataW.trod enc Tryz.prog w base spare held fuel 23 [v]=some x→Gl 23 x.1 →
  ∃(l:List Ms) (cs:List Value),Rl w v l.length cs∧nS w cs l∧l.length*160≤140737488351232∧∀m ∈ l,∀f,Dk f m∧wm f m:=by
 intro fuel
 induction fuel using Nat.strongRecOn with
 |ind fuel ih =>
  intro v x h hw
  obtain ⟨L,h1,h2,h3⟩:=kN (k:=7) (b:=160) Tryz.underlying23 (by kernel_rfl) (by kernel_rfl) (by omega) (by omega) h hw
  obtain ⟨l,e1,e2,e3⟩:=DW (w:=w) L (fun cs lN=>by
   obtain ⟨m,y,hmf,hl,q,hy⟩:=h3 cs lN
   obtain ⟨xs,k,hk,mP,-,CI,hf⟩:=DataW.trod_struct Tryz.underlying57 q
   match xs,CI,cs,hl with
   |[y0,y1,y2,y3,y4,y5,y6],_,[v0,v1,v2,v3,v4,v5,v6],_ =>
    have g0:=hf 0 _ rfl
    have g1:=hf 1 _ rfl
    have g2:=hf 2 _ rfl
    have g3:=hf 3 _ rfl
    have g4:=hf 4 _ rfl
    have g5:=hf 5 _ rfl
    have g6:=hf 6 _ rfl
    simp[qh,zp,KD,Sb,KE,KF] at g0 g1 g2 g3 g4 g5 g6
    unfold Gl at hy
    rw[mP] at hy
    simp only[List.map_cons,List.map_nil,DataW.weights,Tryz.underlying57] at hy
    simp[DataW.weightsEach] at hy
    obtain ⟨n0,e0,-,-⟩:=DataW.trod_string Tryz.underlying9 g0
    obtain ⟨l1,a1,b1,c1⟩:=I0 g1 (fun n hn=>hy n (.inr (.inl hn)))
    obtain ⟨l2,a2,b2⟩:=mD g2 (fun n hn=>hy n (.inr (.inr (.inl hn))))
    obtain ⟨l3,cm,a3,d3,b3,c3⟩:=ih k (by omega) v3 y3 g3 (fun n hn=>hy n (.inr (.inr (.inr (.inl hn)))))
    obtain ⟨l4,ce,a4,d4,b4,c4⟩:=AP g4 (fun n hn=>hy n (.inr (.inr (.inr (.inr (.inl hn))))))
    obtain ⟨l5,a5,b5⟩:=AO g5 (fun n hn=>hy n (.inr (.inr (.inr (.inr (.inr (.inl hn)))))))
    obtain ⟨l6,a6,b6⟩:=mD g6 (fun n hn=>hy n (.inr (.inr (.inr (.inr (.inr (.inr hn)))))))
    simp at e0
    subst e0
    exact ⟨.mk n0 l1 l2 l3 l4 l5 l6,v1,v2,v3,v4,v5,v6,n0,l1,l2,l3,l4,l5,l6,cm,ce,rfl,⟨rfl,a1,a2,a3,d3,a4,d4,a5,a6⟩,Ql ⟨by omega,by omega,by omega,by omega,c4,by omega,by omega⟩ (fun d hd=>by have:=c1 d hd;omega) c3⟩)
  rw[e2] at h1 h2
  exact ⟨l,_,h1,e1,h2,e3⟩
theorem E8 {fuel:Nat}{cs:List Value}{x:DataW H×List MemPlace} (h:DataW.trod enc Tryz.prog w base spare held fuel 26 cs=some x) (hw:Gl 26 x.1) :
  ∃(F:Fl) (vi vm ve:Value) (cm ce:List Value),cs=[.string F.dj,vi,vm,ve]∧zy w (.agg #[.string F.dj,vi,vm,ve]) F vi vm ve cm ce∧LJ F∧∀m ∈ F.ms,wm 32 m:=by
 obtain ⟨xs,k,-,mP,hl,CI,hf⟩:=DataW.trod_struct Tryz.underlying26 h
 rw[show Tryz.prog.cellsOf 26=4 by kernel_rfl] at hl
 match xs,CI,cs,hl with
 |[y0,y1,y2,y3],_,[v0,v1,v2,v3],_ =>
  have g0:=hf 0 _ rfl
  have g1:=hf 1 _ rfl
  have g2:=hf 2 _ rfl
  have g3:=hf 3 _ rfl
  simp[qh,zp,KE,KF] at g0 g1 g2 g3
  unfold Gl at hw
  rw[mP] at hw
  simp only[List.map_cons,List.map_nil,DataW.weights,Tryz.underlying26] at hw
  simp[DataW.weightsEach] at hw
  obtain ⟨n0,e0,-,-⟩:=DataW.trod_string Tryz.underlying9 g0
  obtain ⟨l1,a1,b1⟩:=mD g1 (fun n hn=>hw n (.inr (.inl hn)))
  obtain ⟨l2,cm,a2,d2,b2,c2⟩:=IZ k v2 y2 g2 (fun n hn=>hw n (.inr (.inr (.inl hn))))
  obtain ⟨l3,ce,a3,d3,b3,c3⟩:=AP g3 (fun n hn=>hw n (.inr (.inr (.inr hn))))
  simp at e0
  subst e0
  exact ⟨⟨n0,l1,l2,l3⟩,v1,v2,v3,cm,ce,rfl,⟨rfl,a1,a2,d2,a3,d3⟩,⟨by show l1.length*16≤_;omega,by show l2.length*160≤_;omega,fun m hm=>(c2 m hm 200).1,by show l3.length*88≤_;omega,c3⟩,fun m hm=>(c2 m hm 32).2⟩
end
end Go.Proofs.YtghioefalckgoaaGreatDoor
namespace Go.Proofs.YtghioefalckgoaaGreatDoor
open Go.RowKit
theorem Nu {W:World}{laid:List (String×DataW Unit)} (h:laidMet Tryz.prog laid W) (hm:("internal/strconv.uint64pow10",Rows.laid_internal_strconv_uint64pow10) ∈ laid):gG W:=by
 have h1:Lib.VarReads Tryz.prog W "internal/strconv.uint64pow10" (Lib.tabData .u64 Lib.pow10Tab):=Lib.laidMet.reads h hm
 obtain ⟨g',t',cs,fuel,p,fC,nK,Jy,hd⟩:=h1
 have hg:Tryz.prog.globalNamed "internal/strconv.uint64pow10" = some 4:=by kernel_rfl
 have hty:(Tryz.prog.globals[4]?).map (·.type)=some 311:=by kernel_rfl
 obtain rfl:=zC (hg.symm.trans fC)
 obtain rfl:=zC (hty.symm.trans nK)
 unfold gG Lib.TabIs
 rw[Jy,←Lib.cells_of_tab Tryz.underlying311 Tryz.underlying236 (by kernel_rfl) (by kernel_rfl) hd]
theorem MM {W:World} (h:W.ShapedOpen Tryz.prog):gj W:=by
 obtain ⟨m,hm⟩:=cell_of_shapedOpen_int (P:=Tryz.prog) (g:=1) (t:=3) (zero:=#[.int .i64 0]) h (of_decide_eq_true (by kernel_rfl)) (by kernel_rfl) rfl (by kernel_rfl) (by kernel_rfl) Tryz.underlying3
 exact ⟨World.block_lt_of_cell? W _ hm,m,hm⟩
end Go.Proofs.YtghioefalckgoaaGreatDoor
namespace Go.Proofs.YtghioefalckgoaaGreatDoor
open Go.ChangeShapes Go.WideShapes Go.ChangeAt Go.RowKit
theorem A3 {H:Type}{enc:TypeId×Value→H}{P:Program}{w:World}{base:Nat}{sp:Nat→Bool}{held:Bool}{fuel:Nat}{t:TypeId}{ms:_}{cs:List Value}{nm:String}{d:DataW H}{p:List MemPlace}
  (ht:P.underlying t=some (.interface ms)) (h:DataW.trod enc P w base sp held fuel t cs=some (.iface nm d,p)):∃u v,cs=[.iface u v]:=by
 cases fuel with
 |zero=>simp[DataW.trod] at h
 |succ fuel =>
  simp only[DataW.trod,ht] at h
  split at h
  all_goals first
   |exact ⟨_,_,rfl⟩
   |(simp at h;done)
   |(simp_all;done)
   |(rename_i heq _;cases heq;done)
   |(rename_i heq;cases heq;done)
theorem D9 {W:World}{name nm:String}{d:DataW Unit}{g:Nat} (hg:Tryz.prog.globalNamed name=some g) (hty:(Tryz.prog.globals[g]?).map (·.type)=some 141) (h:Lib.VarReads Tryz.prog W name (.iface nm d)):Gs W g:=by
 obtain ⟨g',t',cs,fuel,p,fC,nK,Jy,hd⟩:=h
 obtain rfl:=zC (hg.symm.trans fC)
 obtain rfl:=zC (hty.symm.trans nK)
 have hc:=World.var?_cell hg Jy
 obtain ⟨u,v,lN⟩:=A3 Tryz.underlying141 hd
 have h1:W.cell? ⟨g,0,none⟩=some (.iface u v):=by
  rw[hc]
  have:cs.toList[0]?=some (.iface u v):=by rw[lN];rfl
  simpa using this
 exact ⟨World.block_lt_of_cell? W _ h1,_,h1,.inr ⟨u,v,rfl⟩⟩
theorem Nw {W:World}{laid:List (String×DataW Unit)} (h:laidMet Tryz.prog laid W) (hm:("strconv.ErrSyntax",Rows.laid_strconv_ErrSyntax) ∈ laid) (O7:("strconv.ErrRange",Rows.laid_strconv_ErrRange) ∈ laid):ji W :=
 ⟨D9 (by kernel_rfl) (by kernel_rfl) (Lib.laidMet.reads h hm),D9 (by kernel_rfl) (by kernel_rfl) (Lib.laidMet.reads h O7)⟩
theorem J9:Tryz.prog.globalNamed "sigil/wire.forms" = some 0:=by kernel_rfl
theorem CZ:(Tryz.prog.globals[0]?).map (·.type)=some 192:=by kernel_rfl
theorem Dh:Tryz.prog.cellsOf 192=45:=by kernel_rfl
theorem xX:Tryz.prog.cellsOf 191=5:=by kernel_rfl
theorem cellsByte:Tryz.prog.cellsOf 5=1:=by kernel_rfl
theorem C7 {H:Type}{enc:TypeId×Value→H}{w:World}{base:Nat}{sp:Nat→Bool}{held:Bool}{fuel:Nat}{cs:List Value}{a b c d e:Int}{p:List MemPlace}
  (h:DataW.trod enc Tryz.prog w base sp held fuel 191 cs=some (.agg [.lit (.int .u8 a),.lit (.int .u8 b),.lit (.int .u8 c),.lit (.int .u8 d),.lit (.int .u8 e)],p)) :
  cs=[.int .u8 a,.int .u8 b,.int .u8 c,.int .u8 d,.int .u8 e]:=by
 obtain ⟨xs,k,_,hx,hlen,CI,hf⟩:=DataW.trod_struct Tryz.underlying191 h
 rw[xX] at hlen
 match xs,CI,cs,hlen with
 |[y0,y1,y2,y3,y4],_,[v0,v1,v2,v3,v4],_ =>
  have g0:=hf 0 _ rfl
  have g1:=hf 1 _ rfl
  have g2:=hf 2 _ rfl
  have g3:=hf 3 _ rfl
  have g4:=hf 4 _ rfl
  simp[cellsByte] at g0 g1 g2 g3 g4
  obtain ⟨n0,e0,f0,_⟩:=DataW.trod_int Tryz.underlying5 g0
  obtain ⟨n1,e1,f1,_⟩:=DataW.trod_int Tryz.underlying5 g1
  obtain ⟨n2,e2,f2,_⟩:=DataW.trod_int Tryz.underlying5 g2
  obtain ⟨n3,e3,f3,_⟩:=DataW.trod_int Tryz.underlying5 g3
  obtain ⟨n4,e4,f4,_⟩:=DataW.trod_int Tryz.underlying5 g4
  simp at e0 e1 e2 e3 e4
  subst e0 e1 e2 e3 e4 f0 f1 f2 f3 f4
  simp at hx
  obtain ⟨⟨q0,q1,q2,q3,q4⟩,_⟩:=hx
  subst q0 q1 q2 q3 q4
  rfl
theorem Ai {H:Type}{enc:TypeId×Value→H}{w:World}{base:Nat}{sp:Nat→Bool}{held:Bool}{fuel:Nat}{cs:List Value}{p:List MemPlace}
  (h:DataW.trod enc Tryz.prog w base sp held fuel 192 cs=some (Rows.laid_sigil_wire_forms,p)) :
  ∀(i:Nat) (a b c d e:Int),jF[i]?=some (a,b,c,d,e)→(cs.drop (i*5)).take 5=[.int .u8 a,.int .u8 b,.int .u8 c,.int .u8 d,.int .u8 e]:=by
 intro i a b c d e hf
 cases fuel with
 |zero=>simp[DataW.trod] at h
 |succ fuel =>
  simp only[DataW.trod,Tryz.underlying192,xX,Dh] at h
  split at h
  ·obtain ⟨xs,hm,hx⟩:=Option.map_eq_some_iff.1 h
   have hi:i<9:=by
    have:=(zB hf).1
    rw[mK] at this
    exact this
   obtain ⟨y,hy,XW⟩:=Lib.mapM_at hm i i (by simp[hi])
   have hxs:xs.map (·.1)=jF.map fun z=>(DataW.agg [.lit (.int .u8 z.1),.lit (.int .u8 z.2.1),.lit (.int .u8 z.2.2.1),.lit (.int .u8 z.2.2.2.1),.lit (.int .u8 z.2.2.2.2)]:DataW H):=by
    have:=congrArg Prod.fst hx
    simpa[Rows.laid_sigil_wire_forms,jF] using this
   have h2:(xs.map (·.1))[i]?=some y.1:=by simp[hy]
   rw[hxs,List.getElem?_map,hf] at h2
   simp at h2
   obtain ⟨y1,y2⟩:=y
   simp only at h2
   subst h2
   exact C7 XW
  ·cases h
theorem Nv {W:World}{laid:List (String×DataW Unit)} (h:laidMet Tryz.prog laid W) (hm:("sigil/wire.forms",Rows.laid_sigil_wire_forms) ∈ laid):jS W:=by
 obtain ⟨g',t',cs,fuel,p,fC,nK,Jy,hd⟩:=Lib.laidMet.reads h hm
 obtain rfl:=zC (J9.symm.trans fC)
 obtain rfl:=zC (CZ.symm.trans nK)
 have hc:=World.var?_cell J9 Jy
 have ht:=Ai hd
 have mQ:∀(i j:Nat) (l:List Value) (v:Value),(cs.toList.drop (i*5)).take 5=l→j<5→l[j]?=some v→W.cell? ⟨0,i*5+j,none⟩=some v:=by
  intro i j l v hl hj hv
  rw[hc]
  subst hl
  rw[List.getElem?_take,if_pos hj,List.getElem?_drop] at hv
  simpa using hv
 refine ⟨?_,fun i a b c d e hf=>?_⟩
 ·have:=mQ 0 0 _ (.int .u8 0) (ht 0 0 127 0 0 0 rfl) (by decide) rfl
  exact World.block_lt_of_cell? W _ this
 ·have hl:=ht i a b c d e hf
  have h0:=mQ i 0 _ _ hl (by decide) rfl
  have h1:=mQ i 1 _ _ hl (by decide) rfl
  have h2:=mQ i 2 _ _ hl (by decide) rfl
  have h3:=mQ i 3 _ _ hl (by decide) rfl
  have h4:=mQ i 4 _ _ hl (by decide) rfl
  exact ⟨h0,h1,h2,h3,h4⟩
namespace vR
theorem own:ownKnob Tryz.prog.godebug=none:=by kernel_rfl
theorem laidOut:laidOutB Tryz.prog=true:=by kernel_rfl
theorem Ky (H:Type) (enc:TypeId×Value→H) (W:World) (base:Nat) (args:Array Value) (ds gs:List (DataW H)) (before:List MemPlace) (F:Stop.Interp)
  (OV:∀(j:Nat) t v,Tryz.f4.params[j]?=some t→args[j]?=some v→Value.okWide Tryz.prog W .any base t v)
  (hW:DataW.Whole enc Tryz.prog Tryz.f4.params.toList (OpenSpec.ofChange Rows.printBookSpec).vars false W args.toList ds gs before) (M9:(DataW.weightsEach Tryz.prog (Tryz.f4.params.toList++(OpenSpec.ofChange Rows.printBookSpec).bare.plain.varTypes Tryz.prog) (ds++gs)).all (·≤reachBytes)=true) (hL:laidMetH Tryz.prog Rows.printBookRow.laid W) (Tj:W.ShapedOpen Tryz.prog) :
  Calls Tryz.prog 4 args W fun e W'=>∃v,e=.returned v∧((OpenSpec.ofChange Rows.printBookSpec).at F).post enc Tryz.prog Tryz.f4 false true false false W args v W':=by
 have M6:=OV
 have hW':=hW
 obtain ⟨p,q,hA0,hV,rfl,hfz,hnd⟩:=hW
 have hA:DataW.TrodAll enc Tryz.prog W 0 (fun _=>true) true Tryz.f4.params.toList args.toList ds p:=hA0
 rw[Tryz.params4] at hA M6
 obtain ⟨v0,vs0,d0,ds0,p0,q0,aaA,rfl,rfl,h0,r0⟩:=trodAll_cons hA
 obtain ⟨rfl,rfl,rfl⟩:=trodAll_nil r0
 obtain rfl:args=#[v0]:=by cases args;simp_all
 obtain ⟨rfl,rfl⟩:=trodVars_none hV
 have iL:(DataW.weightsEach Tryz.prog [26] [d0]).all (·≤reachBytes)=true:=by have e:=M9;rw[Tryz.params4] at e;exact e
 have Mk:=Nv (laid:=Rows.printBookRow.laid) hL (.tail _ (.tail _ (.tail _ (.tail _ (.head _)))))
 have Ut:=Nw (laid:=Rows.printBookRow.laid) hL (.tail _ (.tail _ (.tail _ (.tail _ (.tail _ (.tail _ (.head _))))))) (.tail _ (.tail _ (.tail _ (.tail _ (.tail _ (.head _))))))
 have Us:=MM Tj
 have Ur:=Nu (laid:=Rows.printBookRow.laid) hL (.tail _ (.tail _ (.head _)))
 have k0:=h0
 have lt0:∀x ∈ p0,x.block<W.heap.size:=by obtain ⟨m,hm⟩:=k0;exact DataW.trod_lt m _ _ _ hm
 obtain ⟨cs0,rfl,-⟩:=okWide_struct Tryz.underlying26 (M6 0 26 v0 rfl rfl)
 have ow0:Gl 26 d0:=fun z hz=>by have h:z≤reachBytes:=of_decide_eq_true (List.all_eq_true.1 iL z (DataW.weights_mem_each (P:=Tryz.prog) (j:=0) rfl rfl z hz));rw[reachBytes] at h;exact h
 obtain ⟨F0,vi0,vm0,ve0,Eo,ce0,e0,XS,Va,fX⟩:=(show ∃(F:Fl) (vi vm ve:Value) (cm ce:List Value),cs0.toList=[.string F.dj,vi,vm,ve]∧zy W (.agg #[.string F.dj,vi,vm,ve]) F vi vm ve cm ce∧LJ F∧∀m ∈ F.ms,wm 32 m by obtain ⟨fuel,hf⟩:=h0;exact E8 hf ow0)
 obtain rfl:cs0=#[.string F0.dj,vi0,vm0,ve0]:=by apply Array.toList_inj.1;exact e0
 clear hA0 OV
 refine (Gi Mk Ut Us Ur XS Va fX).mono fun e W' ⟨he,bh⟩=>?_
 subst he
 exact ⟨_,rfl,_,_,_,[],_,[],hW',trodAll_mk1 (shut_bool Tryz.underlying4 _),(trodAll_cons_mk (Below.trod laidOut (by kernel_rfl) (of_decide_eq_true (by kernel_rfl)) k0 bh lt0) trodAll_mk0),rfl,bh.frame _,fun h=>by cases h⟩
noncomputable def pU (os:Os):World :=
 { World.holding Tryz.prog os ⟨#[.cells #[.string ⟨#[118,97,108,117,101,32,111,117,116,32,111,102,32,114,97,110,103,101]⟩] 321,.cells #[.string ⟨#[105,110,118,97,108,105,100,32,115,121,110,116,97,120]⟩] 321],#[],[]⟩ with heap:=(((((((((World.holding Tryz.prog os ⟨#[.cells #[.string ⟨#[118,97,108,117,101,32,111,117,116,32,111,102,32,114,97,110,103,101]⟩] 321,.cells #[.string ⟨#[105,110,118,97,108,105,100,32,115,121,110,116,97,120]⟩] 321],#[],[]⟩).heap.modify 7 fun|.cells _ t frozen=>.cells #[.int .u8 0,.int .u8 1,.int .u8 28,.int .u8 2,.int .u8 29,.int .u8 14,.int .u8 24,.int .u8 3,.int .u8 30,.int .u8 22,.int .u8 20,.int .u8 15,.int .u8 25,.int .u8 17,.int .u8 4,.int .u8 8,.int .u8 31,.int .u8 27,.int .u8 13,.int .u8 23,.int .u8 21,.int .u8 19,.int .u8 16,.int .u8 7,.int .u8 26,.int .u8 12,.int .u8 18,.int .u8 6,.int .u8 11,.int .u8 5,.int .u8 10,.int .u8 9] t frozen|o=>o).modify 8 fun|.cells _ t frozen=>.cells #[.int .u8 0,.int .u8 1,.int .u8 56,.int .u8 2,.int .u8 57,.int .u8 49,.int .u8 28,.int .u8 3,.int .u8 61,.int .u8 58,.int .u8 42,.int .u8 50,.int .u8 38,.int .u8 29,.int .u8 17,.int .u8 4,.int .u8 62,.int .u8 47,.int .u8 59,.int .u8 36,.int .u8 45,.int .u8 43,.int .u8 51,.int .u8 22,.int .u8 53,.int .u8 39,.int .u8 33,.int .u8 30,.int .u8 24,.int .u8 18,.int .u8 12,.int .u8 5,.int .u8 63,.int .u8 55,.int .u8 48,.int .u8 27,.int .u8 60,.int .u8 41,.int .u8 37,.int .u8 16,.int .u8 46,.int .u8 35,.int .u8 44,.int .u8 21,.int .u8 52,.int .u8 32,.int .u8 23,.int .u8 11,.int .u8 54,.int .u8 26,.int .u8 40,.int .u8 15,.int .u8 34,.int .u8 20,.int .u8 31,.int .u8 10,.int .u8 25,.int .u8 14,.int .u8 19,.int .u8 9,.int .u8 13,.int .u8 8,.int .u8 7,.int .u8 6] t frozen|o=>o).modify 4 fun|.cells _ t frozen=>.cells #[.int .u64 1,.int .u64 10,.int .u64 100,.int .u64 1000,.int .u64 10000,.int .u64 100000,.int .u64 1000000,.int .u64 10000000,.int .u64 100000000,.int .u64 1000000000,.int .u64 10000000000,.int .u64 100000000000,.int .u64 1000000000000,.int .u64 10000000000000,.int .u64 100000000000000,.int .u64 1000000000000000,.int .u64 10000000000000000,.int .u64 100000000000000000,.int .u64 1000000000000000000,.int .u64 10000000000000000000] t frozen|o=>o).modify 3 fun|.cells _ t frozen=>.cells #[.int .u8 128,.int .u8 191,.int .u8 160,.int .u8 191,.int .u8 128,.int .u8 159,.int .u8 144,.int .u8 191,.int .u8 128,.int .u8 143,.int .u8 0,.int .u8 0,.int .u8 0,.int .u8 0,.int .u8 0,.int .u8 0,.int .u8 0,.int .u8 0,.int .u8 0,.int .u8 0,.int .u8 0,.int .u8 0,.int .u8 0,.int .u8 0,.int .u8 0,.int .u8 0,.int .u8 0,.int .u8 0,.int .u8 0,.int .u8 0,.int .u8 0,.int .u8 0] t frozen|o=>o).modify 0 fun|.cells _ t frozen=>.cells #[.int .u8 0,.int .u8 127,.int .u8 0,.int .u8 0,.int .u8 0,.int .u8 194,.int .u8 223,.int .u8 1,.int .u8 128,.int .u8 191,.int .u8 224,.int .u8 224,.int .u8 2,.int .u8 160,.int .u8 191,.int .u8 225,.int .u8 236,.int .u8 2,.int .u8 128,.int .u8 191,.int .u8 237,.int .u8 237,.int .u8 2,.int .u8 128,.int .u8 159,.int .u8 238,.int .u8 239,.int .u8 2,.int .u8 128,.int .u8 191,.int .u8 240,.int .u8 240,.int .u8 3,.int .u8 144,.int .u8 191,.int .u8 241,.int .u8 243,.int .u8 3,.int .u8 128,.int .u8 191,.int .u8 244,.int .u8 244,.int .u8 3,.int .u8 128,.int .u8 143] t frozen|o=>o).modify 6 fun|.cells _ t frozen=>.cells #[.iface 319 (.pointer (some ⟨(World.settled Tryz.prog os).heap.size+0,0,none⟩))] t frozen|o=>o).modify 5 fun|.cells _ t frozen=>.cells #[.iface 319 (.pointer (some ⟨(World.settled Tryz.prog os).heap.size+1,0,none⟩))] t frozen|o=>o).modify 2 fun|.cells _ t frozen=>.cells (Go.Pinned.utf8FirstZ.map fun (n:Nat)=>Value.int .u8 (n:Int)).toArray t frozen|o=>o) }
theorem Jh (os:Os):laidMet Tryz.prog Rows.printBookRow.laid ((pU os).forCall (fun _ _=>0) ⟨#[],#[.agg #[.string .empty,.slice none 0 0,.slice none 0 0,.slice none 0 0]],[]⟩).memory :=
 laidMet_of_run' 8 (by kernel_rfl) (by kernel_rfl)
theorem reads (os:Os) {H:Type} (enc:TypeId×Value→H):∃places,DataW.whole enc Tryz.prog ((pU os).forCall (fun _ _=>0) ⟨#[],#[.agg #[.string .empty,.slice none 0 0,.slice none 0 0,.slice none 0 0]],[]⟩).memory Tryz.f4.params.toList (OpenSpec.ofChange Rows.printBookSpec).vars false (#[.agg #[.string .empty,.slice none 0 0,.slice none 0 0,.slice none 0 0]]:Array Value).toList 8=some ([.agg [.lit (.string []),.nil,.nil,.nil]],[],places) :=
 ⟨[],by kernel_rfl⟩
theorem lifted (os:Os) (started:os.Started) (H:Type) (enc:TypeId×Value→H) (F:Stop.Interp) :
  ReturnsInHanded {} Tryz.checked os 4 .any ((OpenSpec.ofChange Rows.printBookSpec).preRow enc Tryz.prog Tryz.f4 Rows.printBookRow.domain false Rows.printBookRow.laid) (((OpenSpec.ofChange Rows.printBookSpec).at F).post enc Tryz.prog Tryz.f4 false true false false):=by
 obtain ⟨places,hx⟩:=reads os enc
 refine returnsInHanded_of_row (C:=Tryz.checked) (s:=OpenSpec.ofChange Rows.printBookSpec) own started (by kernel_rfl) Tryz.func4
  (witness_row_at (enc:=enc) (C:=Tryz.checked) false (pU os) #[.agg #[.string .empty,.slice none 0 0,.slice none 0 0,.slice none 0 0]] rfl (by kernel_rfl) (by kernel_rfl) (by kernel_rfl)
   (OpenSpec.preRow_of_cond 8 hx (by kernel_rfl) (fun k hk=>by cases hk) (by kernel_rfl) (Jh os))) ?_
 intro W base args ds gs before M6 hW _ hk iL hL Tj _
 exact Ky H enc W base args ds gs before F M6 hW iL hL Tj
theorem eO {a b:Bool} (h:a=true) (k:b=true):(a&&b)=true:=by rw[h,k];rfl
theorem FQ:(Rows.printBookRow.inPlace==Tryz.pinned.checked.prog.inPlace 4)=true:=by kernel_rfl
theorem y7:(Rows.printBookRow.unfollowed==Tryz.pinned.checked.prog.unfollowed 4)=true:=by kernel_rfl
theorem C':(Rows.printBookRow.recurses==Tryz.pinned.checked.prog.recurses 4)=true:=by kernel_rfl
theorem NG:(Rows.printBookRow.named==Tryz.pinned.checked.prog.varsNamed 4)=true:=by kernel_rfl
theorem closed:joinedFacts Tryz.pinned.checked.prog 4 Tryz.f4 (OpenSpec.ofChange Rows.printBookSpec).bare Rows.printBookRow=true:=by
 unfold joinedFacts
 refine eO ?_ (by kernel_rfl)
 refine eO ?_ (by kernel_rfl)
 refine eO ?_ (by kernel_rfl)
 refine eO ?_ (by kernel_rfl)
 refine eO ?_ (by kernel_rfl)
 refine eO ?_ (by kernel_rfl)
 refine eO ?_ (by kernel_rfl)
 refine eO ?_ (by kernel_rfl)
 refine eO ?_ (by kernel_rfl)
 refine eO ?_ (by kernel_rfl)
 refine eO ?_ (by kernel_rfl)
 refine eO ?_ (by kernel_rfl)
 refine eO ?_ (by kernel_rfl)
 refine eO ?_ (by kernel_rfl)
 refine eO ?_ (by kernel_rfl)
 refine eO ?_ (by kernel_rfl)
 refine eO ?_ (by kernel_rfl)
 refine eO ?_ (by kernel_rfl)
 refine eO ?_ (by kernel_rfl)
 exact eO (eO (eO (eO (by kernel_rfl) FQ) y7) C') NG
theorem said:Rows.PrintBookSaid :=
 OpenClaim.holds_of_cond 4 Tryz.f4 rfl rfl rfl rfl rfl rfl rfl ⟨rfl,rfl,rfl,rfl,rfl⟩ rfl rfl rfl rfl rfl (by kernel_rfl) Tryz.func4 closed
  (of_decide_eq_true (by kernel_rfl)) (by unfold Func.isWrapper;first|(rw[if_pos (by decide +kernel)];kernel_rfl)|(rw[if_neg (by decide +kernel)];exact ⟨rfl,rfl⟩))
  (fun os started H enc _ F=>by rw[OpenClaim.pre_eq_preRow];exact lifted os started H enc F)
theorem plain (f:FuncId) (fn:Func) (hf:Tryz.pinned.checked.prog.funcNamed "sigil/sigillaw6.PrintBook" = some f) (FA:Tryz.pinned.checked.prog.funcs[f]?=some fn) :
  true=Tryz.pinned.checked.prog.looks []∧∀(j:Nat) t,fn.params[j]?=some t→Tryz.pinned.checked.prog.wantsStandIn t=false:=by
 obtain rfl:f=4:=Option.some.inj ((show Tryz.prog.funcNamed "sigil/sigillaw6.PrintBook" = some 4 by kernel_rfl).symm.trans hf) |>.symm
 obtain rfl:fn=Tryz.f4:=(Option.some.inj (Tryz.func4.symm.trans FA)).symm
 refine ⟨by kernel_rfl,fun j t ht=>?_⟩
 rw[Tryz.params4] at ht
 have hm:t ∈ [26]:=by have:=Array.mem_of_getElem? ht;simpa using this
 simp at hm
 have w26:Tryz.pinned.checked.prog.wantsStandIn 26=false:=(show Tryz.prog.wantsStandIn 26=false by kernel_rfl)
 subst hm
 all_goals first|with_reducible exact w26
theorem aZ:Rows.PrintBookCardSaid :=
 Claim7.holds_tied_plain_at .later [] _ _ _ _ said (fun _ h=>by cases h) (by kernel_rfl) (fun _ h=>by cases h) printBook_row_tie rfl ⟨rfl,rfl⟩ (by kernel_rfl) rfl plain (by kernel_rfl)
end vR
theorem proved:Rows.PrintBookCardSaid:=vR.aZ
#print axioms proved
end Go.Proofs.YtghioefalckgoaaGreatDoor

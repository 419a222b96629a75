import Derived.Test.YtichhjfjcinjgaaGreatDoorYEa
import Derived.Test.YtichhjfjcinjgaaGreatDoorRows
import Derived.OpenShut
import Derived.Deep.Slices
import Derived.SizedLaws
import Derived.Shelf.Vars
import Derived.Lib.LaidU8
import Derived.ProofKit
set_option maxRecDepth 100000
namespace Go.Proofs.YtichhjfjcinjgaaGreatDoor
open Go.ChangeShapes Go.WideShapes Go.RowKit
theorem IT {H:Type} (d:DataW H):1≤Rows.uptoBulk d:=by
 cases d with
 |lit a=>cases a<;>simp[Rows.uptoBulk]
 |_=>simp[Rows.uptoBulk]
theorem uK {H:Type}:∀l:List (DataW H),l.length≤Rows.uptoBulkAll l
 |[]=>Nat.zero_le _
 |d::r=>by have:=uK r;have:=IT d;simp only[List.length_cons,Rows.uptoBulkAll];omega
theorem DF {k:Nat}{x:Value}:∀(L:List (List Value)) (j:Nat),(∀cs ∈ L,cs.length=k)→L.flatten[j]?=some x→∃i r cs,j=i*k+r∧L[i]?=some cs∧cs[r]?=some x
 |[],j,_,h=>by simp at h
 |c::L,j,hk,h=>by
  rw[List.flatten_cons] at h
  have hc:=hk c (List.mem_cons_self ..)
  by_cases hj:j<c.length
  ·rw[List.getElem?_append_left hj] at h
   exact ⟨0,j,c,by omega,rfl,h⟩
  ·rw[List.getElem?_append_right (by omega)] at h
   obtain ⟨i,r,cs,h1,h2,h3⟩:=DF L _ (fun cs qN=>hk cs (zF _ qN)) h
   exact ⟨i+1,r,cs,by rw[Nat.succ_mul];omega,h2,h3⟩
section
variable {H : Type} {enc : TypeId × Value → H} {w : World} {base : Nat} {spare : Nat → Bool} {held : Bool}
def I' (enc:TypeId×Value→H) (w:World) (base:Nat) (spare:Nat→Bool) (held:Bool) (fuel te k:Nat) (p:List Value×DataW H):Prop:=∃m y,m<fuel∧p.1.length=k∧DataW.trod enc Tryz.prog w base spare held m te p.1=some y∧y.1=p.2
theorem kC {fuel ts te k:Nat} (hu:Tryz.prog.underlying ts=some (.slice te)) (hk:Tryz.prog.cellsOf te=k) (V6:0<k) {v:Value}{x:DataW H×List MemPlace} (h:DataW.trod enc Tryz.prog w base spare held fuel ts [v]=some x) (hw:Rows.uptoBulk x.1≤1048576) :
  ∃L:List (List Value×DataW H),Rl w v L.length (L.map (·.1)).flatten∧Rows.uptoBulkAll (L.map (·.2))≤Rows.uptoBulk x.1∧∀p ∈ L,I' enc w base spare held fuel te k p:=by
 rcases DataW.trod_slice hu h with ⟨qN,rfl⟩|⟨y,len,cap,elems,rest,n,rfl,qN,rfl,_,hl,hm,hel,pd,_,_⟩
 ·obtain rfl:v=.slice none 0 0:=by simpa using qN
  exact ⟨[],la _ _,Nat.zero_le _,fun cs h=>by simp at h⟩
 ·obtain rfl:v=.slice (some y) len cap:=by simpa using qN
  dsimp only at hw ⊢
  have each:∀i,i<len→∃p:List Value×DataW H,w.cells? base (y.add (i*k)) k=some p.1∧I' enc w base spare held (n+1) te k p∧(elems.map (·.1))[i]?=some p.2:=by
   intro i hi
   have q:=pd i hi
   rw[hk] at q
   have Zu:elems[i]?=some elems[i]:=List.getElem?_eq_getElem (by omega)
   rw[Zu] at q
   obtain ⟨cs,h1,h2⟩:=Option.bind_eq_some_iff.1 q
   exact ⟨(cs,elems[i].1),h1,⟨n,elems[i],by omega,(World.cells?_some h1).2.1,h2,rfl⟩,by rw[List.getElem?_map,Zu];rfl⟩
  obtain ⟨q,hq⟩:=Go.Deep.choose_lt each
  have hlen:((List.range len).map q).length=len:=by simp
  have VL:((List.range len).map q).map (·.2)=elems.map (·.1):=by
   apply List.ext_getElem?
   intro i
   by_cases hi:i<len
   ·rw[(hq i hi).2.2,List.getElem?_map,List.getElem?_map,List.getElem?_range hi];rfl
   ·rw[List.getElem?_eq_none (by rw[List.length_map,hlen];omega),List.getElem?_eq_none (by rw[List.length_map];omega)]
  have H9:∀cs ∈ (List.range len).map q,I' enc w base spare held (n+1) te k cs:=by
   intro cs qN
   obtain ⟨i,hi,rfl⟩:=List.mem_map.1 qN
   exact (hq i (List.mem_range.1 hi)).2.1
  have bQ:Rows.uptoBulkAll (((List.range len).map q).map (·.2))+1≤Rows.uptoBulk (DataW.slice (elems.map (·.1)) (rest.map (·.1)):DataW H):=by
   rw[VL];simp only[Rows.uptoBulk];omega
  have hn:len≤1048576:=by
   have:=uK (((List.range len).map q).map (·.2))
   rw[List.length_map,hlen] at this
   have:=hw
   omega
  refine ⟨(List.range len).map q,⟨some y,cap,by rw[hlen],by rw[hlen];omega,fun hp=>?_⟩,by omega,H9⟩
  rw[hlen] at hp
  have h0:w.cell? ((y.add (0*k)).add 0)=some _:=((World.cells?_some (hq 0 hp).1).2.2 0 V6).trans (List.getElem?_eq_getElem (by rw[(World.cells?_some (hq 0 hp).1).2.1];exact V6))
  obtain ⟨g,o,spot⟩:=y
  have Rf:spot=none:=by simpa[Addr.add] using World.cell?_spot h0
  subst Rf
  have hg:g<w.heap.size:=by
   rw[Go.Deep.add_add,Go.WideShapes.add_plain] at h0
   exact World.block_lt_of_cell? w _ h0
  refine ⟨g,o,rfl,hg,fun j x hx=>?_⟩
  obtain ⟨i,r,cs,rfl,h2,h3⟩:=DF (k:=k) _ j (fun cs qN=>by obtain ⟨p,hp,rfl⟩:=List.mem_map.1 qN;exact (H9 p hp).choose_spec.choose_spec.2.1) hx
  rw[List.getElem?_map] at h2
  obtain ⟨p',oG,rfl⟩:=Option.map_eq_some_iff.1 h2
  rw[List.getElem?_map] at oG
  obtain ⟨i',Ia,rfl⟩:=Option.map_eq_some_iff.1 oG
  obtain ⟨hi,rfl⟩:i<len∧i=i':=by
   have hi:=(zB Ia).1
   rw[List.length_range] at hi
   rw[List.getElem?_range hi] at Ia
   exact ⟨hi,zC Ia⟩
  have hr:=(zB h3).1
  rw[(World.cells?_some (hq i hi).1).2.1] at hr
  have h4:=(World.cells?_some (hq i hi).1).2.2 r hr
  rw[Go.WideShapes.add_plain,Go.WideShapes.add_plain] at h4
  rw[←Nat.add_assoc,h4,h3]
theorem kF {α:Type} (f:α→List Value) (Q:α→Prop):∀(L:List (List Value×DataW H)),(∀p ∈ L,∃a,p.1=f a∧Q a)→∃l:List α,(L.map (·.1)).flatten=l.flatMap f∧L.length=l.length∧∀a ∈ l,Q a
 |[],_=>⟨[],rfl,rfl,fun a h=>by simp at h⟩
 |c::L,h=>by
  obtain ⟨a,e,ha⟩:=h c (List.mem_cons_self ..)
  obtain ⟨l,h1,h2,h3⟩:=kF f Q L (fun cs qN=>h cs (zF _ qN))
  refine ⟨a::l,by rw[List.map_cons,List.flatten_cons,List.flatMap_cons,h1,e],by rw[List.length_cons,List.length_cons,h2],fun x hx=>?_⟩
  rcases List.mem_cons.1 hx with rfl|hx
  ·exact ha
  ·exact h3 x hx
theorem mx {L:List (List Value×DataW H)}{n:Nat} (h:Rows.uptoBulkAll (L.map (·.2))≤n):L.length≤n:=by have:=uK (L.map (·.2));rw[List.length_map] at this;omega
theorem sB {d:DataW H}:∀{l:List (DataW H)},d ∈ l→Rows.uptoBulk d≤Rows.uptoBulkAll l
 |[],h=>by simp at h
 |e::r,h=>by
  simp only[Rows.uptoBulkAll]
  rcases List.mem_cons.1 h with rfl|h
  ·omega
  ·have:=sB h;omega
theorem CE:Tryz.prog.cellsOf 3=1:=by kernel_rfl
theorem pQ:Tryz.prog.cellsOf 9=1:=by kernel_rfl
theorem yg:Tryz.prog.cellsOf 22=1:=by kernel_rfl
theorem IN:Tryz.prog.cellsOf 44=1:=by kernel_rfl
theorem Ol:Tryz.prog.cellsOf 43=1:=by kernel_rfl
theorem Ok:Tryz.prog.cellsOf 65=1:=by kernel_rfl
theorem IQ:Tryz.prog.cellsOf 24=1:=by kernel_rfl
theorem IP:Tryz.prog.cellsOf 23=1:=by kernel_rfl
theorem mA {fuel:Nat}{v:Value}{x:DataW H×List MemPlace} (h:DataW.trod enc Tryz.prog w base spare held fuel 22 [v]=some x) (hw:Rows.uptoBulk x.1≤1048576) :
  ∃l:List ByteArray,Rl w v l.length (bZ l)∧l.length≤Rows.uptoBulk x.1:=by
 obtain ⟨L,h1,h2,h3⟩:=kC (k:=1) Tryz.underlying22 pQ (by omega) h hw
 obtain ⟨l,e1,e2,-⟩:=kF (fun s:ByteArray=>[Value.string s]) (fun _=>True) L (fun p hp=>by
  obtain ⟨m,y,-,-,q,-⟩:=h3 p hp
  obtain ⟨s,e,-,-⟩:=DataW.trod_string Tryz.underlying9 q
  exact ⟨s,e,trivial⟩)
 have h4:=mx h2
 rw[e1,e2,←xg] at h1
 exact ⟨l,h1,by omega⟩
theorem zR {fuel:Nat}{v:Value}{x:DataW H×List MemPlace} (h:DataW.trod enc Tryz.prog w base spare held fuel 44 [v]=some x) (hw:Rows.uptoBulk x.1≤1048576) :
  ∃l:List (Int×Int),Rl w v l.length (kQ l)∧l.length≤Rows.uptoBulk x.1:=by
 obtain ⟨L,h1,h2,h3⟩:=kC (k:=2) Tryz.underlying44 (by kernel_rfl) (by omega) h hw
 obtain ⟨l,e1,e2,-⟩:=kF (fun p:Int×Int=>[Value.int .i64 p.1,.int .i64 p.2]) (fun _=>True) L (fun p hp=>by
  obtain ⟨m,y,-,hl,q,-⟩:=h3 p hp
  obtain ⟨cs,dd⟩:=p
  simp only at hl q ⊢
  obtain ⟨xs,k,-,-,-,yx,hf⟩:=DataW.trod_struct Tryz.underlying111 q
  match xs,yx,cs,hl with
  |[y0,y1],_,[v0,v1],_ =>
   have g0:=hf 0 _ rfl
   have g1:=hf 1 _ rfl
   simp[CE] at g0 g1
   obtain ⟨n0,e0,-,-⟩:=DataW.trod_int Tryz.underlying3 g0
   obtain ⟨n1,e1,-,-⟩:=DataW.trod_int Tryz.underlying3 g1
   simp at e0 e1
   subst e0 e1
   exact ⟨(n0,n1),rfl,trivial⟩)
 have h4:=mx h2
 rw[e1,e2] at h1
 exact ⟨l,h1,by omega⟩
theorem GA {fuel:Nat}{v:Value}{x:DataW H×List MemPlace} (h:DataW.trod enc Tryz.prog w base spare held fuel 65 [v]=some x) (hw:Rows.uptoBulk x.1≤1048576) :
  ∃l:List (ByteArray×Int),Rl w v l.length (qP l)∧l.length≤Rows.uptoBulk x.1:=by
 obtain ⟨L,h1,h2,h3⟩:=kC (k:=2) Tryz.underlying65 (by kernel_rfl) (by omega) h hw
 obtain ⟨l,e1,e2,-⟩:=kF (fun p:ByteArray×Int=>[Value.string p.1,.int .i64 p.2]) (fun _=>True) L (fun p hp=>by
  obtain ⟨m,y,-,hl,q,-⟩:=h3 p hp
  obtain ⟨cs,dd⟩:=p
  simp only at hl q ⊢
  obtain ⟨xs,k,-,-,-,yx,hf⟩:=DataW.trod_struct Tryz.underlying74 q
  match xs,yx,cs,hl with
  |[y0,y1],_,[v0,v1],_ =>
   have g0:=hf 0 _ rfl
   have g1:=hf 1 _ rfl
   simp[CE,pQ] at g0 g1
   obtain ⟨n0,e0,-,-⟩:=DataW.trod_string Tryz.underlying9 g0
   obtain ⟨n1,e1,-,-⟩:=DataW.trod_int Tryz.underlying3 g1
   simp at e0 e1
   subst e0 e1
   exact ⟨(n0,n1),rfl,trivial⟩)
 have h4:=mx h2
 rw[e1,e2] at h1
 exact ⟨l,h1,by omega⟩
theorem GC {fuel:Nat}{v:Value}{x:DataW H×List MemPlace} (h:DataW.trod enc Tryz.prog w base spare held fuel 43 [v]=some x) (hw:Rows.uptoBulk x.1≤1048576) :
  ∃l:List Fd,Rl w v l.length (fw l)∧l.length≤Rows.uptoBulk x.1∧∀d ∈ l,d.ty.size≤1048576:=by
 obtain ⟨L,h1,h2,h3⟩:=kC (k:=6) Tryz.underlying43 (by kernel_rfl) (by omega) h hw
 obtain ⟨l,e1,e2,e3⟩:=kF Fd.cs (fun d=>d.ty.size≤1048576) L (fun p hp=>by
  obtain ⟨m,y,-,hl,q,hy⟩:=h3 p hp
  have hb:=sB (List.mem_map.2 ⟨p,hp,rfl⟩:p.2 ∈ L.map (·.2))
  rw[←hy] at hb
  obtain ⟨cs,dd⟩:=p
  simp only at hl q ⊢
  obtain ⟨xs,k,-,Nt,-,yx,hf⟩:=DataW.trod_struct Tryz.underlying42 q
  match xs,yx,cs,hl with
  |[y0,y1,y2,y3,y4,y5],_,[v0,v1,v2,v3,v4,v5],_ =>
   have g0:=hf 0 _ rfl
   have g1:=hf 1 _ rfl
   have g2:=hf 2 _ rfl
   have g3:=hf 3 _ rfl
   have g4:=hf 4 _ rfl
   have g5:=hf 5 _ rfl
   simp[CE,pQ] at g0 g1 g2 g3 g4 g5
   obtain ⟨n0,e0,-,-⟩:=DataW.trod_int Tryz.underlying3 g0
   obtain ⟨n1,e1,-,-⟩:=DataW.trod_string Tryz.underlying9 g1
   obtain ⟨n2,e2,f2,-⟩:=DataW.trod_string Tryz.underlying9 g2
   obtain ⟨n3,e3,-,-⟩:=DataW.trod_string Tryz.underlying9 g3
   obtain ⟨n4,e4,-,-⟩:=DataW.trod_int Tryz.underlying3 g4
   obtain ⟨n5,e5,-,-⟩:=DataW.trod_int Tryz.underlying3 g5
   simp at e0 e1 e2 e3 e4 e5
   subst e0 e1 e2 e3 e4 e5
   refine ⟨⟨n0,n1,n2,n3,n4,n5⟩,rfl,?_⟩
   show n2.size≤_
   rw[Nt,f2] at hb
   simp only[List.map_cons,List.map_nil,Rows.uptoBulk,Rows.uptoBulkAll] at hb
   have:n2.data.toList.length=n2.size:=rfl
   omega)
 have h4:=mx h2
 rw[e1,e2] at h1
 exact ⟨l,h1,by omega,e3⟩
def Yj (w:World) (cs:List Value) (n:Nat) (e:En):Prop:=∃vv vr vg,cs=[.string e.name,vv,vr,vg]∧Rl w vv e.aQ.length (qP e.aQ)∧Rl w vr e.res.length (kQ e.res)∧Rl w vg e.gone.length (bZ e.gone)∧JG e∧kl e≤n
theorem Dl:∀(L:List (List Value×DataW H)),(∀p ∈ L,∃e,Yj w p.1 (Rows.uptoBulk p.2) e)→∃l:List En,vl w (L.map (·.1)).flatten l∧L.length=l.length∧(∀e ∈ l,JG e)∧bE kl l≤Rows.uptoBulkAll (L.map (·.2))
 |[],_=>⟨[],.nil,rfl,fun a h=>by simp at h,Nat.zero_le _⟩
 |c::L,h=>by
  obtain ⟨e,vv,vr,vg,ee,a1,a2,a3,a4,a5⟩:=h c (List.mem_cons_self ..)
  obtain ⟨l,h1,h2,h3,h4⟩:=Dl L (fun cs qN=>h cs (zF _ qN))
  refine ⟨e::l,by rw[List.map_cons,List.flatten_cons,ee];exact .cons a1 a2 a3 h1,by rw[List.length_cons,List.length_cons,h2],fun x hx=>?_,by simp only[bE,List.map_cons,Rows.uptoBulkAll];omega⟩
  rcases List.mem_cons.1 hx with rfl|hx
  ·exact a4
  ·exact h3 x hx
theorem zS {fuel:Nat}{v:Value}{x:DataW H×List MemPlace} (h:DataW.trod enc Tryz.prog w base spare held fuel 24 [v]=some x) (hw:Rows.uptoBulk x.1≤1048576) :
  ∃(l:List En) (cs:List Value),Rl w v l.length cs∧vl w cs l∧l.length≤1048576∧(∀e ∈ l,JG e)∧bE kl l≤Rows.uptoBulk x.1:=by
 obtain ⟨L,h1,h2,h3⟩:=kC (k:=4) Tryz.underlying24 (by kernel_rfl) (by omega) h hw
 obtain ⟨l,e1,e2,e3,e4⟩:=Dl (w:=w) L (fun p hp=>by
  obtain ⟨m,y,-,hl,q,hy⟩:=h3 p hp
  have hb:=sB (List.mem_map.2 ⟨p,hp,rfl⟩:p.2 ∈ L.map (·.2))
  rw[←hy] at hb ⊢
  obtain ⟨cs,dd⟩:=p
  simp only at hl q ⊢
  obtain ⟨xs,k,-,Nt,-,yx,hf⟩:=DataW.trod_struct Tryz.underlying67 q
  match xs,yx,cs,hl with
  |[y0,y1,y2,y3],_,[v0,v1,v2,v3],_ =>
   have g0:=hf 0 _ rfl
   have g1:=hf 1 _ rfl
   have g2:=hf 2 _ rfl
   have g3:=hf 3 _ rfl
   simp[pQ,yg,IN,Ok] at g0 g1 g2 g3
   rw[Nt] at hb ⊢
   simp only[List.map_cons,List.map_nil,Rows.uptoBulk,Rows.uptoBulkAll] at hb ⊢
   obtain ⟨n0,e0,-,-⟩:=DataW.trod_string Tryz.underlying9 g0
   obtain ⟨l1,a1,b1⟩:=GA g1 (by omega)
   obtain ⟨l2,a2,b2⟩:=zR g2 (by omega)
   obtain ⟨l3,a3,b3⟩:=mA g3 (by omega)
   simp at e0
   subst e0
   exact ⟨⟨n0,l1,l2,l3⟩,v1,v2,v3,rfl,a1,a2,a3,⟨by show l1.length*24≤_;omega,by show l2.length*16≤_;omega,by show l3.length*16≤_;omega⟩,by show 1+l1.length+l2.length+l3.length≤_;omega⟩)
 have h4:=mx h2
 rw[e2] at h1 h4
 exact ⟨l,_,h1,e1,by omega,e3,by omega⟩
def W8 (w:World) (cs:List Value) (n:Nat) (m:Ms):Prop:=∃vf vo vm ve vr vg nm fs os ms es rs gs cm ce,cs=[.string nm,vf,vo,vm,ve,vr,vg]∧Lw w m vf vo vm ve vr vg nm fs os ms es rs gs cm ce∧∀f,DS f m∧vM f m∧cQ f m≤n
theorem Dk:∀(L:List (List Value×DataW H)),(∀p ∈ L,∃m,W8 w p.1 (Rows.uptoBulk p.2) m)→∃l:List Ms,tf w (L.map (·.1)).flatten l∧L.length=l.length∧∀f,(∀m ∈ l,DS f m∧vM f m)∧bE (cQ f) l≤Rows.uptoBulkAll (L.map (·.2))
 |[],_=>⟨[],.nil,rfl,fun f=>⟨fun a h=>by simp at h,Nat.zero_le _⟩⟩
 |c::L,h=>by
  obtain ⟨m,vf,vo,vm,ve,vr,vg,nm,fs,os,ms,es,rs,gs,cm,ce,ee,hV,ha⟩:=h c (List.mem_cons_self ..)
  obtain ⟨l,h1,h2,h3⟩:=Dk L (fun cs qN=>h cs (zF _ qN))
  obtain rfl:=hV.is
  refine ⟨_::l,by rw[List.map_cons,List.flatten_cons,ee];exact .cons hV.hf hV.ho hV.hm hV.et hV.he hV.fv hV.hr hV.hg h1,by rw[List.length_cons,List.length_cons,h2],fun f=>⟨fun x hx=>?_,?_⟩⟩
  ·rcases List.mem_cons.1 hx with rfl|hx
   ·exact ⟨(ha f).1,(ha f).2.1⟩
   ·exact (h3 f).1 x hx
  ·have:=(h3 f).2
   have:=(ha f).2.2
   simp only[bE,List.map_cons,Rows.uptoBulkAll]
   omega
theorem MW {nm:ByteArray}{fs:List Fd}{os:List ByteArray}{ms:List Ms}{es:List En}{rs:List (Int×Int)}{gs:List ByteArray}{n:Nat} (h:P4 fs os ms es rs gs) (hf:∀d ∈ fs,d.ty.size≤281474976710656) (hm:∀f,(∀m ∈ ms,DS f m∧vM f m)∧bE (cQ f) ms≤n) {q:Nat} (hq:1+fs.length+os.length+rs.length+gs.length+bE kl es+n≤q):∀f,DS f (.mk nm fs os ms es rs gs)∧vM f (.mk nm fs os ms es rs gs)∧cQ f (.mk nm fs os ms es rs gs)≤q
 |0=>⟨h,trivial,Nat.zero_le _⟩
 |f+1=>⟨⟨h,fun m yz=>((hm f).1 m yz).1⟩,⟨hf,fun m yz=>((hm f).1 m yz).2⟩,by have:=(hm f).2;simp only[cQ];omega⟩
theorem GB:∀(fuel:Nat) (v:Value) (x:DataW H×List MemPlace),DataW.trod enc Tryz.prog w base spare held fuel 23 [v]=some x→Rows.uptoBulk x.1≤1048576 →
  ∃(l:List Ms) (cs:List Value),Rl w v l.length cs∧tf w cs l∧l.length≤1048576∧∀f,(∀m ∈ l,DS f m∧vM f m)∧bE (cQ f) l≤Rows.uptoBulk x.1:=by
 intro fuel
 induction fuel using Nat.strongRecOn with
 |ind fuel ih =>
  intro v x h hw
  obtain ⟨L,h1,h2,h3⟩:=kC (k:=7) Tryz.underlying23 (by kernel_rfl) (by omega) h hw
  obtain ⟨l,e1,e2,e3⟩:=Dk (w:=w) L (fun p hp=>by
   obtain ⟨m,y,hmf,hl,q,hy⟩:=h3 p hp
   have hb:=sB (List.mem_map.2 ⟨p,hp,rfl⟩:p.2 ∈ L.map (·.2))
   rw[←hy] at hb ⊢
   obtain ⟨cs,dd⟩:=p
   simp only at hl q ⊢
   obtain ⟨xs,k,hk,Nt,-,yx,hf⟩:=DataW.trod_struct Tryz.underlying46 q
   match xs,yx,cs,hl with
   |[y0,y1,y2,y3,y4,y5,y6],_,[v0,v1,v2,v3,v4,v5,v6],_ =>
    have g0:=hf 0 _ rfl
    have g1:=hf 1 _ rfl
    have g2:=hf 2 _ rfl
    have g3:=hf 3 _ rfl
    have g4:=hf 4 _ rfl
    have g5:=hf 5 _ rfl
    have g6:=hf 6 _ rfl
    simp[pQ,yg,IN,Ol,IP,IQ] at g0 g1 g2 g3 g4 g5 g6
    rw[Nt] at hb ⊢
    simp only[List.map_cons,List.map_nil,Rows.uptoBulk,Rows.uptoBulkAll] at hb ⊢
    obtain ⟨n0,e0,-,-⟩:=DataW.trod_string Tryz.underlying9 g0
    obtain ⟨l1,a1,b1,c1⟩:=GC g1 (by omega)
    obtain ⟨l2,a2,b2⟩:=mA g2 (by omega)
    obtain ⟨l3,cm,a3,d3,b3,c3⟩:=ih k (by omega) v3 y3 g3 (by omega)
    obtain ⟨l4,ce,a4,d4,b4,c4,c5⟩:=zS g4 (by omega)
    obtain ⟨l5,a5,b5⟩:=zR g5 (by omega)
    obtain ⟨l6,a6,b6⟩:=mA g6 (by omega)
    simp at e0
    subst e0
    exact ⟨.mk n0 l1 l2 l3 l4 l5 l6,v1,v2,v3,v4,v5,v6,n0,l1,l2,l3,l4,l5,l6,cm,ce,rfl,⟨rfl,a1,a2,a3,d3,a4,d4,a5,a6⟩,MW ⟨by omega,by omega,by omega,by omega,c4,by omega,by omega⟩ (fun d hd=>by have:=c1 d hd;omega) c3 (by omega)⟩)
  have h4:=mx h2
  rw[e2] at h1 h4
  exact ⟨l,_,h1,e1,by omega,fun f=>⟨(e3 f).1,by have:=(e3 f).2;omega⟩⟩
theorem Es {fuel:Nat}{cs:List Value}{x:DataW H×List MemPlace} (h:DataW.trod enc Tryz.prog w base spare held fuel 26 cs=some x) (hw:Rows.uptoBulk x.1≤1048576) :
  ∃(F:Fl) (vi vm ve:Value) (cm ce:List Value),cs=[.string F.jL,vi,vm,ve]∧yH w (.agg #[.string F.jL,vi,vm,ve]) F vi vm ve cm ce∧Lu F∧(∀m ∈ F.ms,vM 32 m)∧mf F≤1048576:=by
 obtain ⟨xs,k,-,Nt,hl,yx,hf⟩:=DataW.trod_struct Tryz.underlying26 h
 rw[show Tryz.prog.cellsOf 26=4 by kernel_rfl] at hl
 match xs,yx,cs,hl with
 |[y0,y1,y2,y3],_,[v0,v1,v2,v3],_ =>
  have g0:=hf 0 _ rfl
  have g1:=hf 1 _ rfl
  have g2:=hf 2 _ rfl
  have g3:=hf 3 _ rfl
  simp[pQ,yg,IP,IQ] at g0 g1 g2 g3
  rw[Nt] at hw
  simp only[List.map_cons,List.map_nil,Rows.uptoBulk,Rows.uptoBulkAll] at hw
  obtain ⟨n0,e0,-,-⟩:=DataW.trod_string Tryz.underlying9 g0
  obtain ⟨l1,a1,b1⟩:=mA g1 (by omega)
  obtain ⟨l2,cm,a2,d2,b2,c2⟩:=GB k v2 y2 g2 (by omega)
  obtain ⟨l3,ce,a3,d3,b3,c3,b4⟩:=zS g3 (by omega)
  simp at e0
  subst e0
  exact ⟨⟨n0,l1,l2,l3⟩,v1,v2,v3,cm,ce,rfl,⟨rfl,a1,a2,d2,a3,d3⟩,⟨by show l1.length*16≤_;omega,by show l2.length*160≤_;omega,fun m hm=>((c2 200).1 m hm).1,by show l3.length*88≤_;omega,c3⟩,fun m hm=>((c2 32).1 m hm).2,by have:=(c2 32).2;show l1.length+bE (cQ 32) l2+bE kl l3≤_;omega⟩
end
end Go.Proofs.YtichhjfjcinjgaaGreatDoor
namespace Go.Proofs.YtichhjfjcinjgaaGreatDoor
open Go.RowKit
theorem KY {W:World}{laid:List (String×DataW Unit)} (h:laidMet Tryz.prog laid W) (hm:("internal/strconv.uint64pow10",Rows.laid_internal_strconv_uint64pow10) ∈ laid):iF W:=by
 have h1:Lib.VarReads Tryz.prog W "internal/strconv.uint64pow10" (Lib.tabData .u64 Lib.pow10Tab):=Lib.laidMet.reads h hm
 obtain ⟨g',t',cs,fuel,p,kJ,nK,GU,hd⟩:=h1
 have hg:Tryz.prog.globalNamed "internal/strconv.uint64pow10" = some 4:=by kernel_rfl
 have VH:(Tryz.prog.globals[4]?).map (·.type)=some 228:=by kernel_rfl
 obtain rfl:=zC (hg.symm.trans kJ)
 obtain rfl:=zC (VH.symm.trans nK)
 unfold iF Lib.TabIs
 rw[GU,←Lib.cells_of_tab Tryz.underlying228 Tryz.underlying189 (by kernel_rfl) (by kernel_rfl) hd]
theorem Ks {W:World} (h:W.ShapedOpen Tryz.prog):ia W:=by
 obtain ⟨m,hm⟩:=cell_of_shapedOpen_int (P:=Tryz.prog) (g:=1) (t:=3) (zero:=#[.int .i64 0]) h (of_decide_eq_true (by kernel_rfl)) (by kernel_rfl) rfl (by kernel_rfl) (by kernel_rfl) Tryz.underlying3
 exact ⟨World.block_lt_of_cell? W _ hm,m,hm⟩
end Go.Proofs.YtichhjfjcinjgaaGreatDoor
namespace Go.Proofs.YtichhjfjcinjgaaGreatDoor
open Go.ChangeShapes Go.WideShapes Go.ChangeAt Go.RowKit
theorem Ah {H:Type}{enc:TypeId×Value→H}{P:Program}{w:World}{base:Nat}{sp:Nat→Bool}{held:Bool}{fuel:Nat}{t:TypeId}{ms:_}{cs:List Value}{nm:String}{d:DataW H}{p:List MemPlace}
  (ht:P.underlying t=some (.interface ms)) (h:DataW.trod enc P w base sp held fuel t cs=some (.iface nm d,p)):∃u v,cs=[.iface u v]:=by
 cases fuel with
 |zero=>simp[DataW.trod] at h
 |succ fuel =>
  simp only[DataW.trod,ht] at h
  split at h
  all_goals first
   |exact ⟨_,_,rfl⟩
   |(simp at h;done)
   |(simp_all;done)
   |(rename_i heq _;cases heq;done)
   |(rename_i heq;cases heq;done)
theorem Dx {W:World}{name nm:String}{d:DataW Unit}{g:Nat} (hg:Tryz.prog.globalNamed name=some g) (VH:(Tryz.prog.globals[g]?).map (·.type)=some 127) (h:Lib.VarReads Tryz.prog W name (.iface nm d)):Fp W g:=by
 obtain ⟨g',t',cs,fuel,p,kJ,nK,GU,hd⟩:=h
 obtain rfl:=zC (hg.symm.trans kJ)
 obtain rfl:=zC (VH.symm.trans nK)
 have hc:=World.var?_cell hg GU
 obtain ⟨u,v,qN⟩:=Ah Tryz.underlying127 hd
 have h1:W.cell? ⟨g,0,none⟩=some (.iface u v):=by
  rw[hc]
  have:cs.toList[0]?=some (.iface u v):=by rw[qN];rfl
  simpa using this
 exact ⟨World.block_lt_of_cell? W _ h1,_,h1,.inr ⟨u,v,rfl⟩⟩
theorem K4 {W:World}{laid:List (String×DataW Unit)} (h:laidMet Tryz.prog laid W) (hm:("strconv.ErrSyntax",Rows.laid_strconv_ErrSyntax) ∈ laid) (PB:("strconv.ErrRange",Rows.laid_strconv_ErrRange) ∈ laid):jW W :=
 ⟨Dx (by kernel_rfl) (by kernel_rfl) (Lib.laidMet.reads h hm),Dx (by kernel_rfl) (by kernel_rfl) (Lib.laidMet.reads h PB)⟩
theorem It:Tryz.prog.globalNamed "sigil/wire.forms" = some 0:=by kernel_rfl
theorem Cs:(Tryz.prog.globals[0]?).map (·.type)=some 168:=by kernel_rfl
theorem CD:Tryz.prog.cellsOf 168=45:=by kernel_rfl
theorem wW:Tryz.prog.cellsOf 167=5:=by kernel_rfl
theorem cellsByte:Tryz.prog.cellsOf 5=1:=by kernel_rfl
theorem Cx {H:Type}{enc:TypeId×Value→H}{w:World}{base:Nat}{sp:Nat→Bool}{held:Bool}{fuel:Nat}{cs:List Value}{a b c d e:Int}{p:List MemPlace}
  (h:DataW.trod enc Tryz.prog w base sp held fuel 167 cs=some (.agg [.lit (.int .u8 a),.lit (.int .u8 b),.lit (.int .u8 c),.lit (.int .u8 d),.lit (.int .u8 e)],p)) :
  cs=[.int .u8 a,.int .u8 b,.int .u8 c,.int .u8 d,.int .u8 e]:=by
 obtain ⟨xs,k,_,hx,hlen,yx,hf⟩:=DataW.trod_struct Tryz.underlying167 h
 rw[wW] at hlen
 match xs,yx,cs,hlen with
 |[y0,y1,y2,y3,y4],_,[v0,v1,v2,v3,v4],_ =>
  have g0:=hf 0 _ rfl
  have g1:=hf 1 _ rfl
  have g2:=hf 2 _ rfl
  have g3:=hf 3 _ rfl
  have g4:=hf 4 _ rfl
  simp[cellsByte] at g0 g1 g2 g3 g4
  obtain ⟨n0,e0,f0,_⟩:=DataW.trod_int Tryz.underlying5 g0
  obtain ⟨n1,e1,f1,_⟩:=DataW.trod_int Tryz.underlying5 g1
  obtain ⟨n2,e2,f2,_⟩:=DataW.trod_int Tryz.underlying5 g2
  obtain ⟨n3,e3,f3,_⟩:=DataW.trod_int Tryz.underlying5 g3
  obtain ⟨n4,e4,f4,_⟩:=DataW.trod_int Tryz.underlying5 g4
  simp at e0 e1 e2 e3 e4
  subst e0 e1 e2 e3 e4 f0 f1 f2 f3 f4
  simp at hx
  obtain ⟨⟨q0,q1,q2,q3,q4⟩,_⟩:=hx
  subst q0 q1 q2 q3 q4
  rfl
theorem yW {H:Type}{enc:TypeId×Value→H}{w:World}{base:Nat}{sp:Nat→Bool}{held:Bool}{fuel:Nat}{cs:List Value}{p:List MemPlace}
  (h:DataW.trod enc Tryz.prog w base sp held fuel 168 cs=some (Rows.laid_sigil_wire_forms,p)) :
  ∀(i:Nat) (a b c d e:Int),jR[i]?=some (a,b,c,d,e)→(cs.drop (i*5)).take 5=[.int .u8 a,.int .u8 b,.int .u8 c,.int .u8 d,.int .u8 e]:=by
 intro i a b c d e hf
 cases fuel with
 |zero=>simp[DataW.trod] at h
 |succ fuel =>
  simp only[DataW.trod,Tryz.underlying168,wW,CD] at h
  split at h
  ·obtain ⟨xs,hm,hx⟩:=Option.map_eq_some_iff.1 h
   have hi:i<9:=by
    have:=(zB hf).1
    rw[mD] at this
    exact this
   obtain ⟨y,hy,NM⟩:=Lib.mapM_at hm i i (by simp[hi])
   have Vp:xs.map (·.1)=jR.map fun z=>(DataW.agg [.lit (.int .u8 z.1),.lit (.int .u8 z.2.1),.lit (.int .u8 z.2.2.1),.lit (.int .u8 z.2.2.2.1),.lit (.int .u8 z.2.2.2.2)]:DataW H):=by
    have:=congrArg Prod.fst hx
    simpa[Rows.laid_sigil_wire_forms,jR] using this
   have h2:(xs.map (·.1))[i]?=some y.1:=by simp[hy]
   rw[Vp,List.getElem?_map,hf] at h2
   simp at h2
   obtain ⟨y1,y2⟩:=y
   simp only at h2
   subst h2
   exact Cx NM
  ·cases h
theorem KZ {W:World}{laid:List (String×DataW Unit)} (h:laidMet Tryz.prog laid W) (hm:("sigil/wire.forms",Rows.laid_sigil_wire_forms) ∈ laid):iG W:=by
 obtain ⟨g',t',cs,fuel,p,kJ,nK,GU,hd⟩:=Lib.laidMet.reads h hm
 obtain rfl:=zC (It.symm.trans kJ)
 obtain rfl:=zC (Cs.symm.trans nK)
 have hc:=World.var?_cell It GU
 have ht:=yW hd
 have pd:∀(i j:Nat) (l:List Value) (v:Value),(cs.toList.drop (i*5)).take 5=l→j<5→l[j]?=some v→W.cell? ⟨0,i*5+j,none⟩=some v:=by
  intro i j l v hl hj hv
  rw[hc]
  subst hl
  rw[List.getElem?_take,if_pos hj,List.getElem?_drop] at hv
  simpa using hv
 refine ⟨?_,fun i a b c d e hf=>?_⟩
 ·have:=pd 0 0 _ (.int .u8 0) (ht 0 0 127 0 0 0 rfl) (by decide) rfl
  exact World.block_lt_of_cell? W _ this
 ·have hl:=ht i a b c d e hf
  have h0:=pd i 0 _ _ hl (by decide) rfl
  have h1:=pd i 1 _ _ hl (by decide) rfl
  have h2:=pd i 2 _ _ hl (by decide) rfl
  have h3:=pd i 3 _ _ hl (by decide) rfl
  have h4:=pd i 4 _ _ hl (by decide) rfl
  exact ⟨h0,h1,h2,h3,h4⟩
end Go.Proofs.YtichhjfjcinjgaaGreatDoor

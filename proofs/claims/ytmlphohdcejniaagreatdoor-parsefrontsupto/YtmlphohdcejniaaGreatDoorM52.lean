import Derived.Test.YtmlphohdcejniaaGreatDoorUH
import Derived.Deep.Slices
import Derived.Lib.LaidU8
import Derived.Test.YtmlphohdcejniaaGreatDoorCards
import Derived.Test.YtmlphohdcejniaaGreatDoorTie
import Derived.Deep.DeepHandedRow
import Derived.JoinedCond
set_option maxRecDepth 100000
namespace Go.Proofs.YtmlphohdcejniaaGreatDoor
open Go.ChangeShapes Go.WideShapes Go.ChangeAt Go.RowKit
def VZ (W:World) (v:Value) (l:List Int):Prop:=∃a c,v=.slice a l.length c∧(l.length≤c∧c≤maxLen∧(a=none→c=0))∧(0<l.length→∃g off,a=some ⟨g,off,none⟩∧g<W.heap.size∧∀i s,l[i]?=some s→W.cell? ⟨g,off+i,none⟩=some (.int .i64 s))
theorem VZ.up {W w:World}{v:Value}{l:List Int} (h:VZ W v l) (hb:Below W.heap.size W w):VZ w v l:=by
 obtain ⟨a,c,rfl,hm,h3⟩:=h
 refine ⟨a,c,rfl,hm,fun hp=>?_⟩
 obtain ⟨g,off,rfl,h4,h5⟩:=h3 hp
 exact ⟨g,off,rfl,Nat.lt_of_lt_of_le h4 hb.size,fun i k hk=>(hb.cell (p:=⟨g,off+i,none⟩) h4).trans (h5 i k hk)⟩
end Go.Proofs.YtmlphohdcejniaaGreatDoor
namespace Go.Proofs.YtmlphohdcejniaaGreatDoor
open Go.ChangeShapes Go.WideShapes Go.RowKit
theorem OA {H:Type} (d:DataW H):1≤Rows.uptoBulk d:=by
 cases d with
 |lit a=>cases a<;>simp[Rows.uptoBulk]
 |_=>simp[Rows.uptoBulk]
theorem yr {H:Type}:∀l:List (DataW H),l.length≤Rows.uptoBulkAll l
 |[]=>Nat.zero_le _
 |d::r=>by have:=yr r;have:=OA d;simp only[List.length_cons,Rows.uptoBulkAll];omega
theorem Iu {k:Nat}{x:Value}:∀(L:List (List Value)) (j:Nat),(∀cs ∈ L,cs.length=k)→L.flatten[j]?=some x→∃i r cs,j=i*k+r∧L[i]?=some cs∧cs[r]?=some x
 |[],j,_,h=>by simp at h
 |c::L,j,hk,h=>by
  rw[List.flatten_cons] at h
  have hc:=hk c (List.mem_cons_self ..)
  by_cases hj:j<c.length
  ·rw[List.getElem?_append_left hj] at h
   exact ⟨0,j,c,by omega,rfl,h⟩
  ·rw[List.getElem?_append_right (by omega)] at h
   obtain ⟨i,r,cs,h1,h2,h3⟩:=Iu L _ (fun cs cB=>hk cs (zF _ cB)) h
   exact ⟨i+1,r,cs,by rw[Nat.succ_mul];omega,h2,h3⟩
theorem TK (w:World) (xs:List Value):Rl w (.slice none 0 0) 0 xs:=⟨none,0,rfl,Nat.zero_le _,fun h=>absurd h (by omega)⟩
section
variable {H : Type} {enc : TypeId × Value → H} {w : World} {base : Nat} {spare : Nat → Bool} {held : Bool}
def OW (enc:TypeId×Value→H) (w:World) (base:Nat) (spare:Nat→Bool) (held:Bool) (fuel te k:Nat) (p:List Value×DataW H):Prop:=∃m y,m<fuel∧p.1.length=k∧DataW.trod enc Tryz.prog w base spare held m te p.1=some y∧y.1=p.2
theorem lW {fuel ts te k:Nat} (hu:Tryz.prog.underlying ts=some (.slice te)) (hk:Tryz.prog.cellsOf te=k) (lM:0<k) {v:Value}{x:DataW H×List MemPlace} (h:DataW.trod enc Tryz.prog w base spare held fuel ts [v]=some x) (hw:Rows.uptoBulk x.1≤1048576) :
  ∃L:List (List Value×DataW H),Rl w v L.length (L.map (·.1)).flatten∧Rows.uptoBulkAll (L.map (·.2))≤Rows.uptoBulk x.1∧∀p ∈ L,OW enc w base spare held fuel te k p:=by
 rcases DataW.trod_slice hu h with ⟨cB,rfl⟩|⟨y,len,cap,elems,rest,n,rfl,cB,rfl,_,hl,hm,hel,pS,_,_⟩
 ·obtain rfl:v=.slice none 0 0:=by simpa using cB
  exact ⟨[],TK _ _,Nat.zero_le _,fun cs h=>by simp at h⟩
 ·obtain rfl:v=.slice (some y) len cap:=by simpa using cB
  dsimp only at hw ⊢
  have each:∀i,i<len→∃p:List Value×DataW H,w.cells? base (y.add (i*k)) k=some p.1∧OW enc w base spare held (n+1) te k p∧(elems.map (·.1))[i]?=some p.2:=by
   intro i hi
   have q:=pS i hi
   rw[hk] at q
   have hei:elems[i]?=some elems[i]:=List.getElem?_eq_getElem (by omega)
   rw[hei] at q
   obtain ⟨cs,h1,h2⟩:=Option.bind_eq_some_iff.1 q
   exact ⟨(cs,elems[i].1),h1,⟨n,elems[i],by omega,(World.cells?_some h1).2.1,h2,rfl⟩,by rw[List.getElem?_map,hei];rfl⟩
  obtain ⟨q,hq⟩:=Go.Deep.choose_lt each
  have hlen:((List.range len).map q).length=len:=by simp
  have aaV:((List.range len).map q).map (·.2)=elems.map (·.1):=by
   apply List.ext_getElem?
   intro i
   by_cases hi:i<len
   ·rw[(hq i hi).2.2,List.getElem?_map,List.getElem?_map,List.getElem?_range hi];rfl
   ·rw[List.getElem?_eq_none (by rw[List.length_map,hlen];omega),List.getElem?_eq_none (by rw[List.length_map];omega)]
  have KO:∀cs ∈ (List.range len).map q,OW enc w base spare held (n+1) te k cs:=by
   intro cs cB
   obtain ⟨i,hi,rfl⟩:=List.mem_map.1 cB
   exact (hq i (List.mem_range.1 hi)).2.1
  have bo:Rows.uptoBulkAll (((List.range len).map q).map (·.2))+1≤Rows.uptoBulk (DataW.slice (elems.map (·.1)) (rest.map (·.1)):DataW H):=by
   rw[aaV];simp only[Rows.uptoBulk];omega
  have hn:len≤1048576:=by
   have:=yr (((List.range len).map q).map (·.2))
   rw[List.length_map,hlen] at this
   have:=hw
   omega
  refine ⟨(List.range len).map q,⟨some y,cap,by rw[hlen],by rw[hlen];omega,fun hp=>?_⟩,by omega,KO⟩
  rw[hlen] at hp
  have h0:w.cell? ((y.add (0*k)).add 0)=some _:=((World.cells?_some (hq 0 hp).1).2.2 0 lM).trans (List.getElem?_eq_getElem (by rw[(World.cells?_some (hq 0 hp).1).2.1];exact lM))
  obtain ⟨g,o,spot⟩:=y
  have Yk:spot=none:=by simpa[Addr.add] using World.cell?_spot h0
  subst Yk
  have hg:g<w.heap.size:=by
   rw[Go.Deep.add_add,Go.WideShapes.add_plain] at h0
   exact World.block_lt_of_cell? w _ h0
  refine ⟨g,o,rfl,hg,fun j x hx=>?_⟩
  obtain ⟨i,r,cs,rfl,h2,h3⟩:=Iu (k:=k) _ j (fun cs cB=>by obtain ⟨p,hp,rfl⟩:=List.mem_map.1 cB;exact (KO p hp).choose_spec.choose_spec.2.1) hx
  rw[List.getElem?_map] at h2
  obtain ⟨p',Wu,rfl⟩:=Option.map_eq_some_iff.1 h2
  rw[List.getElem?_map] at Wu
  obtain ⟨i',QU,rfl⟩:=Option.map_eq_some_iff.1 Wu
  obtain ⟨hi,rfl⟩:i<len∧i=i':=by
   have hi:=(zB QU).1
   rw[List.length_range] at hi
   rw[List.getElem?_range hi] at QU
   exact ⟨hi,zC QU⟩
  have hr:=(zB h3).1
  rw[(World.cells?_some (hq i hi).1).2.1] at hr
  have h4:=(World.cells?_some (hq i hi).1).2.2 r hr
  rw[Go.WideShapes.add_plain,Go.WideShapes.add_plain] at h4
  rw[←Nat.add_assoc,h4,h3]
theorem lY {α:Type} (f:α→List Value) (Q:α→Prop):∀(L:List (List Value×DataW H)),(∀p ∈ L,∃a,p.1=f a∧Q a)→∃l:List α,(L.map (·.1)).flatten=l.flatMap f∧L.length=l.length∧∀a ∈ l,Q a
 |[],_=>⟨[],rfl,rfl,fun a h=>by simp at h⟩
 |c::L,h=>by
  obtain ⟨a,e,ha⟩:=h c (List.mem_cons_self ..)
  obtain ⟨l,h1,h2,h3⟩:=lY f Q L (fun cs cB=>h cs (zF _ cB))
  refine ⟨a::l,by rw[List.map_cons,List.flatten_cons,List.flatMap_cons,h1,e],by rw[List.length_cons,List.length_cons,h2],fun x hx=>?_⟩
  rcases List.mem_cons.1 hx with rfl|hx
  ·exact ha
  ·exact h3 x hx
theorem nZ {L:List (List Value×DataW H)}{n:Nat} (h:Rows.uptoBulkAll (L.map (·.2))≤n):L.length≤n:=by have:=yr (L.map (·.2));rw[List.length_map] at this;omega
theorem oA {d:DataW H}:∀{l:List (DataW H)},d ∈ l→Rows.uptoBulk d≤Rows.uptoBulkAll l
 |[],h=>by simp at h
 |e::r,h=>by
  simp only[Rows.uptoBulkAll]
  rcases List.mem_cons.1 h with rfl|h
  ·omega
  ·have:=oA h;omega
theorem Gs:Tryz.prog.cellsOf 3=1:=by kernel_rfl
theorem sw:Tryz.prog.cellsOf 9=1:=by kernel_rfl
theorem Ch:Tryz.prog.cellsOf 22=1:=by kernel_rfl
theorem Ox:Tryz.prog.cellsOf 62=1:=by kernel_rfl
theorem VE:Tryz.prog.cellsOf 61=1:=by kernel_rfl
theorem VD:Tryz.prog.cellsOf 66=1:=by kernel_rfl
theorem Oz:Tryz.prog.cellsOf 24=1:=by kernel_rfl
theorem Oy:Tryz.prog.cellsOf 23=1:=by kernel_rfl
theorem om {n:Int} (h:(Lit.int .i64 n).wf=true):kX n:=by
 have:=bounds_i64 h
 exact ⟨by omega,by omega⟩
theorem P6 (l:List ByteArray):bW l=l.flatMap (fun s=>[Value.string s]):=by
 induction l with
 |nil=>rfl
 |cons x r ih=>rw[List.flatMap_cons,←ih];rfl
theorem jb {n:ByteArray}{x:DataW H×List MemPlace} (f:x=(.lit (.string n.data.toList),[])) (hb:Rows.uptoBulk x.1≤1048576):n.size≤1048576:=by
 rw[f] at hb
 simp only[Rows.uptoBulk] at hb
 have:n.data.toList.length=n.size:=rfl
 omega
theorem od {fuel:Nat}{v:Value}{x:DataW H×List MemPlace} (h:DataW.trod enc Tryz.prog w base spare held fuel 22 [v]=some x) (hw:Rows.uptoBulk x.1≤1048576) :
  ∃l:List ByteArray,Rl w v l.length (bW l)∧l.length≤Rows.uptoBulk x.1∧∀s ∈ l,s.size≤1048576:=by
 obtain ⟨L,h1,h2,h3⟩:=lW (k:=1) Tryz.underlying22 sw (by omega) h hw
 obtain ⟨l,e1,e2,e3⟩:=lY (fun s:ByteArray=>[Value.string s]) (fun s=>s.size≤1048576) L (fun p hp=>by
  obtain ⟨m,y,-,-,q,hy⟩:=h3 p hp
  have hb:=oA (List.mem_map.2 ⟨p,hp,rfl⟩:p.2 ∈ L.map (·.2))
  rw[←hy] at hb
  obtain ⟨s,e,f,-⟩:=DataW.trod_string Tryz.underlying9 q
  exact ⟨s,e,jb f (by omega)⟩)
 have h4:=nZ h2
 rw[e1,e2,←P6] at h1
 exact ⟨l,h1,by omega,e3⟩
theorem Dm {fuel:Nat}{v:Value}{x:DataW H×List MemPlace} (h:DataW.trod enc Tryz.prog w base spare held fuel 62 [v]=some x) (hw:Rows.uptoBulk x.1≤1048576) :
  ∃l:List (Int×Int),Rl w v l.length (lj l)∧l.length≤Rows.uptoBulk x.1∧∀p ∈ l,kX p.1∧kX p.2:=by
 obtain ⟨L,h1,h2,h3⟩:=lW (k:=2) Tryz.underlying62 (by kernel_rfl) (by omega) h hw
 obtain ⟨l,e1,e2,e3⟩:=lY (fun p:Int×Int=>[Value.int .i64 p.1,.int .i64 p.2]) (fun p=>kX p.1∧kX p.2) L (fun p hp=>by
  obtain ⟨m,y,-,hl,q,-⟩:=h3 p hp
  obtain ⟨cs,dd⟩:=p
  simp only at hl q ⊢
  obtain ⟨xs,k,-,-,-,BI,hf⟩:=DataW.trod_struct Tryz.underlying111 q
  match xs,BI,cs,hl with
  |[y0,y1],_,[v0,v1],_ =>
   have g0:=hf 0 _ rfl
   have g1:=hf 1 _ rfl
   simp[Gs] at g0 g1
   obtain ⟨n0,e0,-,f0⟩:=DataW.trod_int Tryz.underlying3 g0
   obtain ⟨n1,e1,-,f1⟩:=DataW.trod_int Tryz.underlying3 g1
   simp at e0 e1
   subst e0 e1
   exact ⟨(n0,n1),rfl,om f0,om f1⟩)
 have h4:=nZ h2
 rw[e1,e2] at h1
 exact ⟨l,h1,by omega,e3⟩
theorem L5 {fuel:Nat}{v:Value}{x:DataW H×List MemPlace} (h:DataW.trod enc Tryz.prog w base spare held fuel 66 [v]=some x) (hw:Rows.uptoBulk x.1≤1048576) :
  ∃l:List (ByteArray×Int),Rl w v l.length (xZ l)∧l.length≤Rows.uptoBulk x.1∧∀p ∈ l,p.1.size≤1048576∧kX p.2:=by
 obtain ⟨L,h1,h2,h3⟩:=lW (k:=2) Tryz.underlying66 (by kernel_rfl) (by omega) h hw
 obtain ⟨l,e1,e2,e3⟩:=lY (fun p:ByteArray×Int=>[Value.string p.1,.int .i64 p.2]) (fun p=>p.1.size≤1048576∧kX p.2) L (fun p hp=>by
  obtain ⟨m,y,-,hl,q,hy⟩:=h3 p hp
  have hb:=oA (List.mem_map.2 ⟨p,hp,rfl⟩:p.2 ∈ L.map (·.2))
  rw[←hy] at hb
  obtain ⟨cs,dd⟩:=p
  simp only at hl q ⊢
  obtain ⟨xs,k,-,QF,-,BI,hf⟩:=DataW.trod_struct Tryz.underlying94 q
  match xs,BI,cs,hl with
  |[y0,y1],_,[v0,v1],_ =>
   have g0:=hf 0 _ rfl
   have g1:=hf 1 _ rfl
   simp[Gs,sw] at g0 g1
   rw[QF] at hb
   simp only[List.map_cons,List.map_nil,Rows.uptoBulk,Rows.uptoBulkAll] at hb
   obtain ⟨n0,e0,f0,-⟩:=DataW.trod_string Tryz.underlying9 g0
   obtain ⟨n1,e1,-,f1⟩:=DataW.trod_int Tryz.underlying3 g1
   simp at e0 e1
   subst e0 e1
   exact ⟨(n0,n1),rfl,jb f0 (by omega),om f1⟩)
 have h4:=nZ h2
 rw[e1,e2] at h1
 exact ⟨l,h1,by omega,e3⟩
theorem L7 {fuel:Nat}{v:Value}{x:DataW H×List MemPlace} (h:DataW.trod enc Tryz.prog w base spare held fuel 61 [v]=some x) (hw:Rows.uptoBulk x.1≤1048576) :
  ∃l:List Fd,Rl w v l.length (iF l)∧l.length≤Rows.uptoBulk x.1∧∀d ∈ l,Wk d:=by
 obtain ⟨L,h1,h2,h3⟩:=lW (k:=6) Tryz.underlying61 (by kernel_rfl) (by omega) h hw
 obtain ⟨l,e1,e2,e3⟩:=lY (fun d:Fd=>d.arr.toList) Wk L (fun p hp=>by
  obtain ⟨m,y,-,hl,q,hy⟩:=h3 p hp
  have hb:=oA (List.mem_map.2 ⟨p,hp,rfl⟩:p.2 ∈ L.map (·.2))
  rw[←hy] at hb
  obtain ⟨cs,dd⟩:=p
  simp only at hl q ⊢
  obtain ⟨xs,k,-,QF,-,BI,hf⟩:=DataW.trod_struct Tryz.underlying70 q
  match xs,BI,cs,hl with
  |[y0,y1,y2,y3,y4,y5],_,[v0,v1,v2,v3,v4,v5],_ =>
   have g0:=hf 0 _ rfl
   have g1:=hf 1 _ rfl
   have g2:=hf 2 _ rfl
   have g3:=hf 3 _ rfl
   have g4:=hf 4 _ rfl
   have g5:=hf 5 _ rfl
   simp[Gs,sw] at g0 g1 g2 g3 g4 g5
   rw[QF] at hb
   simp only[List.map_cons,List.map_nil,Rows.uptoBulk,Rows.uptoBulkAll] at hb
   obtain ⟨n0,e0,-,f0⟩:=DataW.trod_int Tryz.underlying3 g0
   obtain ⟨n1,e1,f1,-⟩:=DataW.trod_string Tryz.underlying9 g1
   obtain ⟨n2,e2,f2,-⟩:=DataW.trod_string Tryz.underlying9 g2
   obtain ⟨n3,e3,f3,-⟩:=DataW.trod_string Tryz.underlying9 g3
   obtain ⟨n4,e4,-,f4⟩:=DataW.trod_int Tryz.underlying3 g4
   obtain ⟨n5,e5,-,f5⟩:=DataW.trod_int Tryz.underlying3 g5
   simp at e0 e1 e2 e3 e4 e5
   subst e0 e1 e2 e3 e4 e5
   exact ⟨⟨n0,n1,n2,n3,n4,n5⟩,rfl,om f0,jb f1 (by omega),jb f2 (by omega),jb f3 (by omega),om f4,om f5⟩)
 have h4:=nZ h2
 rw[e1,e2] at h1
 exact ⟨l,h1,by omega,e3⟩
def abE (w:World) (cs:List Value) (n:Nat) (e:En):Prop:=∃vv vr vg,cs=[.string e.name,vv,vr,vg]∧Rl w vv e.bL.length (xZ e.bL)∧Rl w vr e.res.length (lj e.res)∧Rl w vg e.gone.length (bW e.gone)∧KH e∧IA e≤100*n
theorem H8:∀(L:List (List Value×DataW H)),(∀p ∈ L,∃e,abE w p.1 (Rows.uptoBulk p.2) e)→∃l:List En,E1 w (L.map (·.1)).flatten l∧L.length=l.length∧(∀e ∈ l,KH e)∧bI IA l≤100*Rows.uptoBulkAll (L.map (·.2))
 |[],_=>⟨[],.nil,rfl,fun a h=>by simp at h,Nat.zero_le _⟩
 |c::L,h=>by
  obtain ⟨e,vv,vr,vg,ee,a1,a2,a3,a4,a5⟩:=h c (List.mem_cons_self ..)
  obtain ⟨l,h1,h2,h3,h4⟩:=H8 L (fun cs cB=>h cs (zF _ cB))
  refine ⟨e::l,by rw[List.map_cons,List.flatten_cons,ee];exact .cons a1 a2 a3 h1,by rw[List.length_cons,List.length_cons,h2],fun x hx=>?_,by simp only[bI,List.map_cons,Rows.uptoBulkAll];omega⟩
  rcases List.mem_cons.1 hx with rfl|hx
  ·exact a4
  ·exact h3 x hx
theorem Dp {fuel:Nat}{v:Value}{x:DataW H×List MemPlace} (h:DataW.trod enc Tryz.prog w base spare held fuel 24 [v]=some x) (hw:Rows.uptoBulk x.1≤1048576) :
  ∃(l:List En) (cs:List Value),Rl w v l.length cs∧E1 w cs l∧l.length≤1048576∧(∀e ∈ l,KH e)∧bI IA l≤100*Rows.uptoBulk x.1:=by
 obtain ⟨L,h1,h2,h3⟩:=lW (k:=4) Tryz.underlying24 (by kernel_rfl) (by omega) h hw
 obtain ⟨l,e1,e2,e3,e4⟩:=H8 (w:=w) L (fun p hp=>by
  obtain ⟨m,y,-,hl,q,hy⟩:=h3 p hp
  have hb:=oA (List.mem_map.2 ⟨p,hp,rfl⟩:p.2 ∈ L.map (·.2))
  rw[←hy] at hb ⊢
  obtain ⟨cs,dd⟩:=p
  simp only at hl q ⊢
  obtain ⟨xs,k,-,QF,-,BI,hf⟩:=DataW.trod_struct Tryz.underlying68 q
  match xs,BI,cs,hl with
  |[y0,y1,y2,y3],_,[v0,v1,v2,v3],_ =>
   have g0:=hf 0 _ rfl
   have g1:=hf 1 _ rfl
   have g2:=hf 2 _ rfl
   have g3:=hf 3 _ rfl
   simp[sw,Ch,Ox,VD] at g0 g1 g2 g3
   rw[QF] at hb ⊢
   simp only[List.map_cons,List.map_nil,Rows.uptoBulk,Rows.uptoBulkAll] at hb ⊢
   obtain ⟨n0,e0,f0,-⟩:=DataW.trod_string Tryz.underlying9 g0
   obtain ⟨l1,a1,b1,c1⟩:=L5 g1 (by omega)
   obtain ⟨l2,a2,b2,c2⟩:=Dm g2 (by omega)
   obtain ⟨l3,a3,b3,c3⟩:=od g3 (by omega)
   simp at e0
   subst e0
   exact ⟨⟨n0,l1,l2,l3⟩,v1,v2,v3,rfl,a1,a2,a3,⟨jb f0 (by omega),by show l1.length≤_;omega,c1,by show l2.length≤_;omega,c2,by show l3.length≤_;omega,c3⟩,by show 20*l2.length+10*l3.length+20*l1.length+80≤_;omega⟩)
 have h4:=nZ h2
 rw[e2] at h1 h4
 exact ⟨l,_,h1,e1,by omega,e3,by omega⟩
def abq (w:World) (cs:List Value) (n:Nat) (m:Ms):Prop:=∃vf vo vm ve vr vg nm fs os ms es rs gs cm ce,cs=[.string nm,vf,vo,vm,ve,vr,vg]∧ZN w m vf vo vm ve vr vg nm fs os ms es rs gs cm ce∧∀f,EB f m∧FA f m≤100*n
theorem H7:∀(L:List (List Value×DataW H)),(∀p ∈ L,∃m,abq w p.1 (Rows.uptoBulk p.2) m)→∃l:List Ms,EV w (L.map (·.1)).flatten l∧L.length=l.length∧∀f,(∀m ∈ l,EB f m)∧bI (FA f) l≤100*Rows.uptoBulkAll (L.map (·.2))
 |[],_=>⟨[],.nil,rfl,fun f=>⟨fun a h=>by simp at h,Nat.zero_le _⟩⟩
 |c::L,h=>by
  obtain ⟨m,vf,vo,vm,ve,vr,vg,nm,fs,os,ms,es,rs,gs,cm,ce,ee,hV,ha⟩:=h c (List.mem_cons_self ..)
  obtain ⟨l,h1,h2,h3⟩:=H7 L (fun cs cB=>h cs (zF _ cB))
  obtain rfl:=hV.is
  refine ⟨_::l,by rw[List.map_cons,List.flatten_cons,ee];exact .cons hV.hf hV.ho hV.hm hV.jT hV.he hV.mP hV.hr hV.hg h1,by rw[List.length_cons,List.length_cons,h2],fun f=>⟨fun x hx=>?_,?_⟩⟩
  ·rcases List.mem_cons.1 hx with rfl|hx
   ·exact (ha f).1
   ·exact (h3 f).1 x hx
  ·have:=(h3 f).2
   have:=(ha f).2
   simp only[bI,List.map_cons,Rows.uptoBulkAll]
   omega
theorem TD {nm:ByteArray}{fs:List Fd}{os:List ByteArray}{ms:List Ms}{es:List En}{rs:List (Int×Int)}{gs:List ByteArray}{n:Nat} (h:MSz nm fs ms es rs gs) (hm:∀f,(∀m ∈ ms,EB f m)∧bI (FA f) ms≤100*n) {q n2:Nat} (he:bI IA es≤100*n2) (KL:1+fs.length+rs.length+gs.length+n+n2≤q):∀f,EB f (.mk nm fs os ms es rs gs)∧FA f (.mk nm fs os ms es rs gs)≤100*q
 |0=>⟨trivial,Nat.zero_le _⟩
 |f+1=>⟨⟨h,(hm f).1⟩,by have:=(hm f).2;show 100+100*fs.length+(20*rs.length+10*gs.length)+bI (FA f) ms+bI IA es≤_;omega⟩
theorem L6:∀(fuel:Nat) (v:Value) (x:DataW H×List MemPlace),DataW.trod enc Tryz.prog w base spare held fuel 23 [v]=some x→Rows.uptoBulk x.1≤1048576 →
  ∃(l:List Ms) (cs:List Value),Rl w v l.length cs∧EV w cs l∧l.length≤1048576∧∀f,(∀m ∈ l,EB f m)∧bI (FA f) l≤100*Rows.uptoBulk x.1:=by
 intro fuel
 induction fuel using Nat.strongRecOn with
 |ind fuel ih =>
  intro v x h hw
  obtain ⟨L,h1,h2,h3⟩:=lW (k:=7) Tryz.underlying23 (by kernel_rfl) (by omega) h hw
  obtain ⟨l,e1,e2,e3⟩:=H7 (w:=w) L (fun p hp=>by
   obtain ⟨m,y,YI,hl,q,hy⟩:=h3 p hp
   have hb:=oA (List.mem_map.2 ⟨p,hp,rfl⟩:p.2 ∈ L.map (·.2))
   rw[←hy] at hb ⊢
   obtain ⟨cs,dd⟩:=p
   simp only at hl q ⊢
   obtain ⟨xs,k,hk,QF,-,BI,hf⟩:=DataW.trod_struct Tryz.underlying64 q
   match xs,BI,cs,hl with
   |[y0,y1,y2,y3,y4,y5,y6],_,[v0,v1,v2,v3,v4,v5,v6],_ =>
    have g0:=hf 0 _ rfl
    have g1:=hf 1 _ rfl
    have g2:=hf 2 _ rfl
    have g3:=hf 3 _ rfl
    have g4:=hf 4 _ rfl
    have g5:=hf 5 _ rfl
    have g6:=hf 6 _ rfl
    simp[sw,Ch,Ox,VE,Oy,Oz] at g0 g1 g2 g3 g4 g5 g6
    rw[QF] at hb ⊢
    simp only[List.map_cons,List.map_nil,Rows.uptoBulk,Rows.uptoBulkAll] at hb ⊢
    obtain ⟨n0,e0,f0,-⟩:=DataW.trod_string Tryz.underlying9 g0
    obtain ⟨l1,a1,b1,c1⟩:=L7 g1 (by omega)
    obtain ⟨l2,a2,b2,-⟩:=od g2 (by omega)
    obtain ⟨l3,cm,a3,d3,b3,c3⟩:=ih k (by omega) v3 y3 g3 (by omega)
    obtain ⟨l4,ce,a4,d4,b4,c4,c5⟩:=Dp g4 (by omega)
    obtain ⟨l5,a5,b5,c6⟩:=Dm g5 (by omega)
    obtain ⟨l6,a6,b6,c7⟩:=od g6 (by omega)
    simp at e0
    subst e0
    exact ⟨.mk n0 l1 l2 l3 l4 l5 l6,v1,v2,v3,v4,v5,v6,n0,l1,l2,l3,l4,l5,l6,cm,ce,rfl,⟨rfl,a1,a2,a3,d3,a4,d4,a5,a6⟩,TD ⟨jb f0 (by omega),by omega,c1,b3,b4,c4,by omega,c6,by omega,c7⟩ c3 c5 (by omega)⟩)
  have h4:=nZ h2
  rw[e2] at h1 h4
  exact ⟨l,_,h1,e1,by omega,fun f=>⟨(e3 f).1,by have:=(e3 f).2;omega⟩⟩
theorem JA {fuel:Nat}{cs:List Value}{x:DataW H×List MemPlace} (h:DataW.trod enc Tryz.prog w base spare held fuel 26 cs=some x) (hw:Rows.uptoBulk x.1≤1048576) :
  ∃(F:Fl) (vi vm ve:Value) (cm ce:List Value),cs=[.string F.eI,vi,vm,ve]∧To w (.agg #[.string F.eI,vi,vm,ve]) F vi vm ve cm ce∧Pd F:=by
 obtain ⟨xs,k,-,QF,hl,BI,hf⟩:=DataW.trod_struct Tryz.underlying26 h
 rw[show Tryz.prog.cellsOf 26=4 by kernel_rfl] at hl
 match xs,BI,cs,hl with
 |[y0,y1,y2,y3],_,[v0,v1,v2,v3],_ =>
  have g0:=hf 0 _ rfl
  have g1:=hf 1 _ rfl
  have g2:=hf 2 _ rfl
  have g3:=hf 3 _ rfl
  simp[sw,Ch,Oy,Oz] at g0 g1 g2 g3
  rw[QF] at hw
  simp only[List.map_cons,List.map_nil,Rows.uptoBulk,Rows.uptoBulkAll] at hw
  obtain ⟨n0,e0,f0,-⟩:=DataW.trod_string Tryz.underlying9 g0
  obtain ⟨l1,a1,b1,c1⟩:=od g1 (by omega)
  obtain ⟨l2,cm,a2,d2,b2,c2⟩:=L6 k v2 y2 g2 (by omega)
  obtain ⟨l3,ce,a3,d3,b3,c3,b4⟩:=Dp g3 (by omega)
  simp at e0
  subst e0
  exact ⟨⟨n0,l1,l2,l3⟩,v1,v2,v3,cm,ce,rfl,⟨rfl,a1,a2,d2,a3,d3⟩,⟨jb f0 (by omega),by show l1.length≤_;omega,c1,b2,(c2 30).1,by have:=(c2 30).2;show bI (FA 30) l2≤_;omega,b3,c3,by show bI IA l3≤_;omega⟩⟩
end
end Go.Proofs.YtmlphohdcejniaaGreatDoor
namespace Go.Proofs.YtmlphohdcejniaaGreatDoor
open Go.RowKit
theorem Q4 {W:World}{laid:List (String×DataW Unit)} (h:laidMet Tryz.prog laid W) (hm:("internal/strconv.uint64pow10",Rows.laid_internal_strconv_uint64pow10) ∈ laid):oN W:=by
 have h1:Lib.VarReads Tryz.prog W "internal/strconv.uint64pow10" (Lib.tabData .u64 Lib.pow10Tab):=Lib.laidMet.reads h hm
 obtain ⟨g',t',cs,fuel,p,rh,Yj,M1,hd⟩:=h1
 have hg:Tryz.prog.globalNamed "internal/strconv.uint64pow10" = some 2:=by kernel_rfl
 have JZ:(Tryz.prog.globals[2]?).map (·.type)=some 175:=by kernel_rfl
 obtain rfl:=zC (hg.symm.trans rh)
 obtain rfl:=zC (JZ.symm.trans Yj)
 unfold oN Lib.TabIs
 rw[M1,←Lib.cells_of_tab Tryz.underlying175 Tryz.underlying141 (by kernel_rfl) (by kernel_rfl) hd]
theorem F2 {W:World} (hF:nn W) (hE:gM W) (hM:gY W) (hP:oN W) {F:Fl}{vi vm ve:Value}{cm ce:List Value} (hL:To W (.agg #[.string F.eI,vi,vm,ve]) F vi vm ve cm ce) (hz:Pd F) {x:Int} (hx:-9223372036854775808≤x∧x≤9223372036854775807):Calls Tryz.prog 4 #[.agg #[.string F.eI,vi,vm,ve],.int .i64 x] W fun e W'=>e=.returned (.bool true)∧Below W.heap.size W W':=D6 hF hE hM hP hL hz hx
end Go.Proofs.YtmlphohdcejniaaGreatDoor
namespace Go.Proofs.YtmlphohdcejniaaGreatDoor
open Go.ChangeShapes Go.WideShapes Go.ChangeAt Go.RowKit
theorem DK {H:Type}{enc:TypeId×Value→H}{P:Program}{w:World}{base:Nat}{sp:Nat→Bool}{held:Bool}{fuel:Nat}{t:TypeId}{ms:_}{cs:List Value}{nm:String}{d:DataW H}{p:List MemPlace}
  (ht:P.underlying t=some (.interface ms)) (h:DataW.trod enc P w base sp held fuel t cs=some (.iface nm d,p)):∃u v,cs=[.iface u v]:=by
 cases fuel with
 |zero=>simp[DataW.trod] at h
 |succ fuel =>
  simp only[DataW.trod,ht] at h
  split at h
  all_goals first
   |exact ⟨_,_,rfl⟩
   |(simp at h;done)
   |(simp_all;done)
   |(rename_i heq _;cases heq;done)
   |(rename_i heq;cases heq;done)
theorem Ik {W:World}{name nm:String}{d:DataW Unit}{g:Nat} (hg:Tryz.prog.globalNamed name=some g) (JZ:(Tryz.prog.globals[g]?).map (·.type)=some 143) (h:Lib.VarReads Tryz.prog W name (.iface nm d)):KD W g:=by
 obtain ⟨g',t',cs,fuel,p,rh,Yj,M1,hd⟩:=h
 obtain rfl:=zC (hg.symm.trans rh)
 obtain rfl:=zC (JZ.symm.trans Yj)
 have hc:=World.var?_cell hg M1
 obtain ⟨u,v,cB⟩:=DK Tryz.underlying143 hd
 have h1:W.cell? ⟨g,0,none⟩=some (.iface u v):=by
  rw[hc]
  have:cs.toList[0]?=some (.iface u v):=by rw[cB];rfl
  simpa using this
 exact ⟨World.block_lt_of_cell? W _ h1,_,h1,.inr ⟨u,v,rfl⟩⟩
theorem Q7 {W:World}{laid:List (String×DataW Unit)} (h:laidMet Tryz.prog laid W) (hm:("strconv.ErrSyntax",Rows.laid_strconv_ErrSyntax) ∈ laid) (QP:("strconv.ErrRange",Rows.laid_strconv_ErrRange) ∈ laid):gM W :=
 ⟨Ik (by kernel_rfl) (by kernel_rfl) (Lib.laidMet.reads h hm),Ik (by kernel_rfl) (by kernel_rfl) (Lib.laidMet.reads h QP)⟩
theorem NL:Tryz.prog.globalNamed "sigil/wire.forms" = some 0:=by kernel_rfl
theorem F1:(Tryz.prog.globals[0]?).map (·.type)=some 117:=by kernel_rfl
theorem Gp:Tryz.prog.cellsOf 117=45:=by kernel_rfl
theorem AQ:Tryz.prog.cellsOf 116=5:=by kernel_rfl
theorem cellsByte:Tryz.prog.cellsOf 5=1:=by kernel_rfl
theorem F7 {H:Type}{enc:TypeId×Value→H}{w:World}{base:Nat}{sp:Nat→Bool}{held:Bool}{fuel:Nat}{cs:List Value}{a b c d e:Int}{p:List MemPlace}
  (h:DataW.trod enc Tryz.prog w base sp held fuel 116 cs=some (.agg [.lit (.int .u8 a),.lit (.int .u8 b),.lit (.int .u8 c),.lit (.int .u8 d),.lit (.int .u8 e)],p)) :
  cs=[.int .u8 a,.int .u8 b,.int .u8 c,.int .u8 d,.int .u8 e]:=by
 obtain ⟨xs,k,_,hx,hlen,BI,hf⟩:=DataW.trod_struct Tryz.underlying116 h
 rw[AQ] at hlen
 match xs,BI,cs,hlen with
 |[y0,y1,y2,y3,y4],_,[v0,v1,v2,v3,v4],_ =>
  have g0:=hf 0 _ rfl
  have g1:=hf 1 _ rfl
  have g2:=hf 2 _ rfl
  have g3:=hf 3 _ rfl
  have g4:=hf 4 _ rfl
  simp[cellsByte] at g0 g1 g2 g3 g4
  obtain ⟨n0,e0,f0,_⟩:=DataW.trod_int Tryz.underlying5 g0
  obtain ⟨n1,e1,f1,_⟩:=DataW.trod_int Tryz.underlying5 g1
  obtain ⟨n2,e2,f2,_⟩:=DataW.trod_int Tryz.underlying5 g2
  obtain ⟨n3,e3,f3,_⟩:=DataW.trod_int Tryz.underlying5 g3
  obtain ⟨n4,e4,f4,_⟩:=DataW.trod_int Tryz.underlying5 g4
  simp at e0 e1 e2 e3 e4
  subst e0 e1 e2 e3 e4 f0 f1 f2 f3 f4
  simp at hx
  obtain ⟨⟨q0,q1,q2,q3,q4⟩,_⟩:=hx
  subst q0 q1 q2 q3 q4
  rfl
theorem CW {H:Type}{enc:TypeId×Value→H}{w:World}{base:Nat}{sp:Nat→Bool}{held:Bool}{fuel:Nat}{cs:List Value}{p:List MemPlace}
  (h:DataW.trod enc Tryz.prog w base sp held fuel 117 cs=some (Rows.laid_sigil_wire_forms,p)) :
  ∀(i:Nat) (a b c d e:Int),kN[i]?=some (a,b,c,d,e)→(cs.drop (i*5)).take 5=[.int .u8 a,.int .u8 b,.int .u8 c,.int .u8 d,.int .u8 e]:=by
 intro i a b c d e hf
 cases fuel with
 |zero=>simp[DataW.trod] at h
 |succ fuel =>
  simp only[DataW.trod,Tryz.underlying117,AQ,Gp] at h
  split at h
  ·obtain ⟨xs,hm,hx⟩:=Option.map_eq_some_iff.1 h
   have hi:i<9:=by
    have:=(zB hf).1
    rw[ot] at this
    exact this
   obtain ⟨y,hy,hfy⟩:=Lib.mapM_at hm i i (by simp[hi])
   have Po:xs.map (·.1)=kN.map fun z=>(DataW.agg [.lit (.int .u8 z.1),.lit (.int .u8 z.2.1),.lit (.int .u8 z.2.2.1),.lit (.int .u8 z.2.2.2.1),.lit (.int .u8 z.2.2.2.2)]:DataW H):=by
    have:=congrArg Prod.fst hx
    simpa[Rows.laid_sigil_wire_forms,kN] using this
   have h2:(xs.map (·.1))[i]?=some y.1:=by simp[hy]
   rw[Po,List.getElem?_map,hf] at h2
   simp at h2
   obtain ⟨y1,y2⟩:=y
   simp only at h2
   subst h2
   exact F7 hfy
  ·cases h
theorem Q6 {W:World}{laid:List (String×DataW Unit)} (h:laidMet Tryz.prog laid W) (hm:("sigil/wire.forms",Rows.laid_sigil_wire_forms) ∈ laid):nn W:=by
 obtain ⟨g',t',cs,fuel,p,rh,Yj,M1,hd⟩:=Lib.laidMet.reads h hm
 obtain rfl:=zC (NL.symm.trans rh)
 obtain rfl:=zC (F1.symm.trans Yj)
 have hc:=World.var?_cell NL M1
 have ht:=CW hd
 have pS:∀(i j:Nat) (l:List Value) (v:Value),(cs.toList.drop (i*5)).take 5=l→j<5→l[j]?=some v→W.cell? ⟨0,i*5+j,none⟩=some v:=by
  intro i j l v hl hj hv
  rw[hc]
  subst hl
  rw[List.getElem?_take,if_pos hj,List.getElem?_drop] at hv
  simpa using hv
 refine ⟨?_,fun i a b c d e hf=>?_⟩
 ·have:=pS 0 0 _ (.int .u8 0) (ht 0 0 127 0 0 0 rfl) (by decide) rfl
  exact World.block_lt_of_cell? W _ this
 ·have hl:=ht i a b c d e hf
  have h0:=pS i 0 _ _ hl (by decide) rfl
  have h1:=pS i 1 _ _ hl (by decide) rfl
  have h2:=pS i 2 _ _ hl (by decide) rfl
  have h3:=pS i 3 _ _ hl (by decide) rfl
  have h4:=pS i 4 _ _ hl (by decide) rfl
  exact ⟨h0,h1,h2,h3,h4⟩
namespace qR
theorem own:ownKnob Tryz.prog.godebug=none:=by kernel_rfl
theorem laidOut:laidOutB Tryz.prog=true:=by kernel_rfl
theorem Oo (H:Type) (enc:TypeId×Value→H) (W:World) (base:Nat) (args:Array Value) (ds gs:List (DataW H)) (before:List MemPlace) (F:Stop.Interp)
  (SF:∀(j:Nat) t v,Tryz.f4.params[j]?=some t→args[j]?=some v→Value.okWide Tryz.prog W .any base t v)
  (hW:DataW.Whole enc Tryz.prog Tryz.f4.params.toList (Rows.OpenSpec.upto Rows.parseFrontsSpec).vars false W args.toList ds gs before) (hk:Rows.uptoSmall H (ds++gs)=true) (hL:laidMetH Tryz.prog Rows.parseFrontsUptoRow.laid W) (QI:W.ShapedOpen Tryz.prog) :
  Calls Tryz.prog 4 args W fun e W'=>∃v,e=.returned v∧((Rows.OpenSpec.upto Rows.parseFrontsSpec).at F).post enc Tryz.prog Tryz.f4 false true false false W args v W':=by
 have dt:=SF
 have hW':=hW
 obtain ⟨p,q,WQ,hV,rfl,Nk,rT⟩:=hW
 have hA:DataW.TrodAll enc Tryz.prog W 0 (fun _=>true) true Tryz.f4.params.toList args.toList ds p:=WQ
 rw[Tryz.params4] at hA dt
 obtain ⟨v0,vs0,d0,ds0,p0,q0,aa8,rfl,rfl,h0,r0⟩:=trodAll_cons hA
 obtain ⟨v1,vs1,d1,ds1,p1,q1,aa7,rfl,rfl,h1,r1⟩:=trodAll_cons r0
 obtain ⟨rfl,rfl,rfl⟩:=trodAll_nil r1
 obtain rfl:args=#[v0,v1]:=by cases args;simp_all
 obtain ⟨rfl,rfl⟩:=trodVars_none hV
 have Y8:Rows.uptoBulkAll ([d0,d1]++[])≤1048576:=of_decide_eq_true hk
 simp only[List.append_nil,Rows.uptoBulkAll] at Y8
 have P3:=Q6 (laid:=Rows.parseFrontsUptoRow.laid) hL (.tail _ (.tail _ (.tail _ (.tail _ (.head _)))))
 have XD:=Q7 (laid:=Rows.parseFrontsUptoRow.laid) hL (.tail _ (.tail _ (.tail _ (.tail _ (.tail _ (.tail _ (.head _))))))) (.tail _ (.tail _ (.tail _ (.tail _ (.tail _ (.head _))))))
 have XC:=Q5 QI
 have XB:=Q4 (laid:=Rows.parseFrontsUptoRow.laid) hL (.tail _ (.tail _ (.head _)))
 have k0:=h0
 have lt0:∀x ∈ p0,x.block<W.heap.size:=by obtain ⟨m,hm⟩:=k0;exact DataW.trod_lt m _ _ _ hm
 obtain ⟨cs0,rfl,-⟩:=okWide_struct Tryz.underlying26 (dt 0 26 v0 rfl rfl)
 obtain ⟨F0,vi0,vm0,ve0,B9,AS,e0,hl0,oH⟩:=(show ∃(F:Fl) (vi vm ve:Value) (cm ce:List Value),cs0.toList=[.string F.eI,vi,vm,ve]∧To W (.agg #[.string F.eI,vi,vm,ve]) F vi vm ve cm ce∧Pd F by obtain ⟨fuel,hf⟩:=h0;exact JA hf (by show Rows.uptoBulk d0≤_;omega))
 obtain rfl:cs0=#[.string F0.eI,vi0,vm0,ve0]:=by apply Array.toList_inj.1;exact e0
 have k1:=h1
 have lt1:∀x ∈ p1,x.block<W.heap.size:=by obtain ⟨m,hm⟩:=k1;exact DataW.trod_lt m _ _ _ hm
 obtain ⟨x1,rfl⟩:=okWide_int Tryz.underlying3 (dt 1 3 v1 rfl rfl)
 have oq:-9223372036854775808≤x1∧x1≤9223372036854775807:=by
  obtain ⟨fuel,hf⟩:=h1
  obtain ⟨n0,e0,_,f0⟩:=DataW.trod_int Tryz.underlying3 hf
  have e1:x1=n0:=by simpa[Value.cells] using e0
  subst e1
  have:=bounds_i64 f0;omega
 clear WQ SF
 refine (F2 P3 XD XC XB hl0 oH oq).mono fun e W' ⟨he,eL⟩=>?_
 subst he
 exact ⟨_,rfl,_,_,_,[],_,[],hW',trodAll_mk1 (shut_bool Tryz.underlying4 _),(trodAll_cons_mk (Below.trod laidOut (by kernel_rfl) (of_decide_eq_true (by kernel_rfl)) k0 eL lt0) (trodAll_cons_mk (Below.trod laidOut (by kernel_rfl) (of_decide_eq_true (by kernel_rfl)) k1 eL lt1) trodAll_mk0)),rfl,eL.frame _,fun h=>by cases h⟩
noncomputable def rN (os:Os):World :=
 { World.holding Tryz.prog os ⟨#[.cells #[.string ⟨#[118,97,108,117,101,32,111,117,116,32,111,102,32,114,97,110,103,101]⟩] 219,.cells #[.string ⟨#[105,110,118,97,108,105,100,32,115,121,110,116,97,120]⟩] 219],#[],[]⟩ with heap:=(((((((((World.holding Tryz.prog os ⟨#[.cells #[.string ⟨#[118,97,108,117,101,32,111,117,116,32,111,102,32,114,97,110,103,101]⟩] 219,.cells #[.string ⟨#[105,110,118,97,108,105,100,32,115,121,110,116,97,120]⟩] 219],#[],[]⟩).heap.modify 7 fun|.cells _ t frozen=>.cells #[.int .u8 0,.int .u8 1,.int .u8 28,.int .u8 2,.int .u8 29,.int .u8 14,.int .u8 24,.int .u8 3,.int .u8 30,.int .u8 22,.int .u8 20,.int .u8 15,.int .u8 25,.int .u8 17,.int .u8 4,.int .u8 8,.int .u8 31,.int .u8 27,.int .u8 13,.int .u8 23,.int .u8 21,.int .u8 19,.int .u8 16,.int .u8 7,.int .u8 26,.int .u8 12,.int .u8 18,.int .u8 6,.int .u8 11,.int .u8 5,.int .u8 10,.int .u8 9] t frozen|o=>o).modify 8 fun|.cells _ t frozen=>.cells #[.int .u8 0,.int .u8 1,.int .u8 56,.int .u8 2,.int .u8 57,.int .u8 49,.int .u8 28,.int .u8 3,.int .u8 61,.int .u8 58,.int .u8 42,.int .u8 50,.int .u8 38,.int .u8 29,.int .u8 17,.int .u8 4,.int .u8 62,.int .u8 47,.int .u8 59,.int .u8 36,.int .u8 45,.int .u8 43,.int .u8 51,.int .u8 22,.int .u8 53,.int .u8 39,.int .u8 33,.int .u8 30,.int .u8 24,.int .u8 18,.int .u8 12,.int .u8 5,.int .u8 63,.int .u8 55,.int .u8 48,.int .u8 27,.int .u8 60,.int .u8 41,.int .u8 37,.int .u8 16,.int .u8 46,.int .u8 35,.int .u8 44,.int .u8 21,.int .u8 52,.int .u8 32,.int .u8 23,.int .u8 11,.int .u8 54,.int .u8 26,.int .u8 40,.int .u8 15,.int .u8 34,.int .u8 20,.int .u8 31,.int .u8 10,.int .u8 25,.int .u8 14,.int .u8 19,.int .u8 9,.int .u8 13,.int .u8 8,.int .u8 7,.int .u8 6] t frozen|o=>o).modify 2 fun|.cells _ t frozen=>.cells #[.int .u64 1,.int .u64 10,.int .u64 100,.int .u64 1000,.int .u64 10000,.int .u64 100000,.int .u64 1000000,.int .u64 10000000,.int .u64 100000000,.int .u64 1000000000,.int .u64 10000000000,.int .u64 100000000000,.int .u64 1000000000000,.int .u64 10000000000000,.int .u64 100000000000000,.int .u64 1000000000000000,.int .u64 10000000000000000,.int .u64 100000000000000000,.int .u64 1000000000000000000,.int .u64 10000000000000000000] t frozen|o=>o).modify 4 fun|.cells _ t frozen=>.cells #[.int .u8 128,.int .u8 191,.int .u8 160,.int .u8 191,.int .u8 128,.int .u8 159,.int .u8 144,.int .u8 191,.int .u8 128,.int .u8 143,.int .u8 0,.int .u8 0,.int .u8 0,.int .u8 0,.int .u8 0,.int .u8 0,.int .u8 0,.int .u8 0,.int .u8 0,.int .u8 0,.int .u8 0,.int .u8 0,.int .u8 0,.int .u8 0,.int .u8 0,.int .u8 0,.int .u8 0,.int .u8 0,.int .u8 0,.int .u8 0,.int .u8 0,.int .u8 0] t frozen|o=>o).modify 0 fun|.cells _ t frozen=>.cells #[.int .u8 0,.int .u8 127,.int .u8 0,.int .u8 0,.int .u8 0,.int .u8 194,.int .u8 223,.int .u8 1,.int .u8 128,.int .u8 191,.int .u8 224,.int .u8 224,.int .u8 2,.int .u8 160,.int .u8 191,.int .u8 225,.int .u8 236,.int .u8 2,.int .u8 128,.int .u8 191,.int .u8 237,.int .u8 237,.int .u8 2,.int .u8 128,.int .u8 159,.int .u8 238,.int .u8 239,.int .u8 2,.int .u8 128,.int .u8 191,.int .u8 240,.int .u8 240,.int .u8 3,.int .u8 144,.int .u8 191,.int .u8 241,.int .u8 243,.int .u8 3,.int .u8 128,.int .u8 191,.int .u8 244,.int .u8 244,.int .u8 3,.int .u8 128,.int .u8 143] t frozen|o=>o).modify 6 fun|.cells _ t frozen=>.cells #[.iface 217 (.pointer (some ⟨(World.settled Tryz.prog os).heap.size+0,0,none⟩))] t frozen|o=>o).modify 5 fun|.cells _ t frozen=>.cells #[.iface 217 (.pointer (some ⟨(World.settled Tryz.prog os).heap.size+1,0,none⟩))] t frozen|o=>o).modify 3 fun|.cells _ t frozen=>.cells (Go.Pinned.utf8FirstZ.map fun (n:Nat)=>Value.int .u8 (n:Int)).toArray t frozen|o=>o) }
theorem MS (os:Os):laidMet Tryz.prog Rows.parseFrontsUptoRow.laid ((rN os).forCall (fun _ _=>0) ⟨#[],#[.agg #[.string .empty,.slice none 0 0,.slice none 0 0,.slice none 0 0],.int .i64 0],[]⟩).memory :=
 laidMet_of_run' 8 (by kernel_rfl) (by kernel_rfl)
theorem reads (os:Os) {H:Type} (enc:TypeId×Value→H):∃places,DataW.whole enc Tryz.prog ((rN os).forCall (fun _ _=>0) ⟨#[],#[.agg #[.string .empty,.slice none 0 0,.slice none 0 0,.slice none 0 0],.int .i64 0],[]⟩).memory Tryz.f4.params.toList (Rows.OpenSpec.upto Rows.parseFrontsSpec).vars false (#[.agg #[.string .empty,.slice none 0 0,.slice none 0 0,.slice none 0 0],.int .i64 0]:Array Value).toList 8=some ([.agg [.lit (.string []),.nil,.nil,.nil],.lit (.int .i64 0)],[],places) :=
 ⟨[],by kernel_rfl⟩
theorem lifted (os:Os) (started:os.Started) (H:Type) (enc:TypeId×Value→H) (F:Stop.Interp) :
  ReturnsInHanded {} Tryz.checked os 4 .any ((Rows.OpenSpec.upto Rows.parseFrontsSpec).preRow enc Tryz.prog Tryz.f4 Rows.parseFrontsUptoRow.domain false Rows.parseFrontsUptoRow.laid) (((Rows.OpenSpec.upto Rows.parseFrontsSpec).at F).post enc Tryz.prog Tryz.f4 false true false false):=by
 obtain ⟨places,hx⟩:=reads os enc
 refine returnsInHanded_of_row (C:=Tryz.checked) (s:=Rows.OpenSpec.upto Rows.parseFrontsSpec) own started (by kernel_rfl) Tryz.func4
  (witness_row_at (enc:=enc) (C:=Tryz.checked) false (rN os) #[.agg #[.string .empty,.slice none 0 0,.slice none 0 0,.slice none 0 0],.int .i64 0] rfl (by kernel_rfl) (by kernel_rfl) (by kernel_rfl)
   (OpenSpec.preRow_of_cond 8 hx (by kernel_rfl) (fun k hk=>by obtain rfl:=(Option.some.inj hk).symm;kernel_rfl) (by kernel_rfl) (MS os))) ?_
 intro W base args ds gs before dt hW _ hk bU hL QI _
 exact Oo H enc W base args ds gs before F dt hW (hk _ rfl) hL QI
theorem said:Rows.ParseFrontsUptoSaid :=
 OpenClaim.holds_of_cond 4 Tryz.f4 rfl rfl rfl rfl rfl rfl rfl ⟨rfl,rfl,rfl,rfl,rfl⟩ rfl rfl rfl rfl rfl (by kernel_rfl) Tryz.func4 (by kernel_rfl)
  (of_decide_eq_true (by kernel_rfl)) (by unfold Func.isWrapper;first|(rw[if_pos (by decide +kernel)];kernel_rfl)|(rw[if_neg (by decide +kernel)];exact ⟨rfl,rfl⟩))
  (fun os started H enc _ F=>by rw[OpenClaim.pre_eq_preRow];exact lifted os started H enc F)
theorem plain (f:FuncId) (fn:Func) (hf:Tryz.pinned.checked.prog.funcNamed "sigil/sigillaw5.ParseFronts" = some f) (y9:Tryz.pinned.checked.prog.funcs[f]?=some fn) :
  true=Tryz.pinned.checked.prog.looks []∧∀(j:Nat) t,fn.params[j]?=some t→Tryz.pinned.checked.prog.wantsStandIn t=false:=by
 obtain rfl:f=4:=Option.some.inj ((show Tryz.prog.funcNamed "sigil/sigillaw5.ParseFronts" = some 4 by kernel_rfl).symm.trans hf) |>.symm
 obtain rfl:fn=Tryz.f4:=(Option.some.inj (Tryz.func4.symm.trans y9)).symm
 refine ⟨by kernel_rfl,fun j t ht=>?_⟩
 rw[Tryz.params4] at ht
 have hm:t ∈ [26,3]:=by have:=Array.mem_of_getElem? ht;simpa using this
 simp at hm
 have w3:Tryz.pinned.checked.prog.wantsStandIn 3=false:=(show Tryz.prog.wantsStandIn 3=false by kernel_rfl)
 have w26:Tryz.pinned.checked.prog.wantsStandIn 26=false:=(show Tryz.prog.wantsStandIn 26=false by kernel_rfl)
 rcases hm with rfl|rfl
 all_goals first|with_reducible exact w3|with_reducible exact w26
theorem dQ:Rows.ParseFrontsUptoCardSaid :=
 Claim7.holds_tied_plain_at .later [] _ _ _ _ said (fun _ h=>by cases h) (by kernel_rfl) (fun _ h=>by cases h) parseFrontsUpto_row_tie rfl ⟨rfl,rfl⟩ (by kernel_rfl) rfl plain (by kernel_rfl)
end qR
theorem proved:Rows.ParseFrontsUptoCardSaid:=qR.dQ
#print axioms proved
end Go.Proofs.YtmlphohdcejniaaGreatDoor

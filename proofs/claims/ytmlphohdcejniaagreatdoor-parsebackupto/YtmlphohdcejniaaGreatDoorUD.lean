import Derived.Test.YtmlphohdcejniaaGreatDoorM48
import Derived.Deep.Slices
set_option maxRecDepth 100000
namespace Go.Proofs.YtmlphohdcejniaaGreatDoor
open Go.ChangeShapes Go.WideShapes Go.RowKit
theorem MJ {H:Type} (d:DataW H):1≤Rows.uptoBulk d:=by
 cases d with
 |lit a=>cases a<;>simp[Rows.uptoBulk]
 |_=>simp[Rows.uptoBulk]
theorem wT {H:Type}:∀l:List (DataW H),l.length≤Rows.uptoBulkAll l
 |[]=>Nat.zero_le _
 |d::r=>by have:=wT r;have:=MJ d;simp only[List.length_cons,Rows.uptoBulkAll];omega
theorem F6 {k:Nat}{x:Value}:∀(L:List (List Value)) (j:Nat),(∀cs ∈ L,cs.length=k)→L.flatten[j]?=some x→∃i r cs,j=i*k+r∧L[i]?=some cs∧cs[r]?=some x
 |[],j,_,h=>by simp at h
 |c::L,j,hk,h=>by
  rw[List.flatten_cons] at h
  have hc:=hk c (List.mem_cons_self ..)
  by_cases hj:j<c.length
  ·rw[List.getElem?_append_left hj] at h
   exact ⟨0,j,c,by omega,rfl,h⟩
  ·rw[List.getElem?_append_right (by omega)] at h
   obtain ⟨i,r,cs,h1,h2,h3⟩:=F6 L _ (fun cs cn=>hk cs (zF _ cn)) h
   exact ⟨i+1,r,cs,by rw[Nat.succ_mul];omega,h2,h3⟩
theorem RN (w:World) (xs:List Value):Rl w (.slice none 0 0) 0 xs:=⟨none,0,rfl,Nat.zero_le _,fun h=>absurd h (by omega)⟩
section
variable {H : Type} {enc : TypeId × Value → H} {w : World} {base : Nat} {spare : Nat → Bool} {held : Bool}
def M7 (enc:TypeId×Value→H) (w:World) (base:Nat) (spare:Nat→Bool) (held:Bool) (fuel te k:Nat) (p:List Value×DataW H):Prop:=∃m y,m<fuel∧p.1.length=k∧DataW.trod enc Tryz.prog w base spare held m te p.1=some y∧y.1=p.2
theorem la {fuel ts te k:Nat} (hu:Tryz.prog.underlying ts=some (.slice te)) (hk:Tryz.prog.cellsOf te=k) (mh:0<k) {v:Value}{x:DataW H×List MemPlace} (h:DataW.trod enc Tryz.prog w base spare held fuel ts [v]=some x) (hw:Rows.uptoBulk x.1≤1048576) :
  ∃L:List (List Value×DataW H),Rl w v L.length (L.map (·.1)).flatten∧Rows.uptoBulkAll (L.map (·.2))≤Rows.uptoBulk x.1∧∀p ∈ L,M7 enc w base spare held fuel te k p:=by
 rcases DataW.trod_slice hu h with ⟨cn,rfl⟩|⟨y,len,cap,elems,rest,n,rfl,cn,rfl,_,hl,hm,hel,oL,_,_⟩
 ·obtain rfl:v=.slice none 0 0:=by simpa using cn
  exact ⟨[],RN _ _,Nat.zero_le _,fun cs h=>by simp at h⟩
 ·obtain rfl:v=.slice (some y) len cap:=by simpa using cn
  dsimp only at hw ⊢
  have each:∀i,i<len→∃p:List Value×DataW H,w.cells? base (y.add (i*k)) k=some p.1∧M7 enc w base spare held (n+1) te k p∧(elems.map (·.1))[i]?=some p.2:=by
   intro i hi
   have q:=oL i hi
   rw[hk] at q
   have hei:elems[i]?=some elems[i]:=List.getElem?_eq_getElem (by omega)
   rw[hei] at q
   obtain ⟨cs,h1,h2⟩:=Option.bind_eq_some_iff.1 q
   exact ⟨(cs,elems[i].1),h1,⟨n,elems[i],by omega,(World.cells?_some h1).2.1,h2,rfl⟩,by rw[List.getElem?_map,hei];rfl⟩
  obtain ⟨q,hq⟩:=Go.Deep.choose_lt each
  have hlen:((List.range len).map q).length=len:=by simp
  have aay:((List.range len).map q).map (·.2)=elems.map (·.1):=by
   apply List.ext_getElem?
   intro i
   by_cases hi:i<len
   ·rw[(hq i hi).2.2,List.getElem?_map,List.getElem?_map,List.getElem?_range hi];rfl
   ·rw[List.getElem?_eq_none (by rw[List.length_map,hlen];omega),List.getElem?_eq_none (by rw[List.length_map];omega)]
  have NG:∀cs ∈ (List.range len).map q,M7 enc w base spare held (n+1) te k cs:=by
   intro cs cn
   obtain ⟨i,hi,rfl⟩:=List.mem_map.1 cn
   exact (hq i (List.mem_range.1 hi)).2.1
  have bo:Rows.uptoBulkAll (((List.range len).map q).map (·.2))+1≤Rows.uptoBulk (DataW.slice (elems.map (·.1)) (rest.map (·.1)):DataW H):=by
   rw[aay];simp only[Rows.uptoBulk];omega
  have hn:len≤1048576:=by
   have:=wT (((List.range len).map q).map (·.2))
   rw[List.length_map,hlen] at this
   have:=hw
   omega
  refine ⟨(List.range len).map q,⟨some y,cap,by rw[hlen],by rw[hlen];omega,fun hp=>?_⟩,by omega,NG⟩
  rw[hlen] at hp
  have h0:w.cell? ((y.add (0*k)).add 0)=some _:=((World.cells?_some (hq 0 hp).1).2.2 0 mh).trans (List.getElem?_eq_getElem (by rw[(World.cells?_some (hq 0 hp).1).2.1];exact mh))
  obtain ⟨g,o,spot⟩:=y
  have Wf:spot=none:=by simpa[Addr.add] using World.cell?_spot h0
  subst Wf
  have hg:g<w.heap.size:=by
   rw[Go.Deep.add_add,Go.WideShapes.add_plain] at h0
   exact World.block_lt_of_cell? w _ h0
  refine ⟨g,o,rfl,hg,fun j x hx=>?_⟩
  obtain ⟨i,r,cs,rfl,h2,h3⟩:=F6 (k:=k) _ j (fun cs cn=>by obtain ⟨p,hp,rfl⟩:=List.mem_map.1 cn;exact (NG p hp).choose_spec.choose_spec.2.1) hx
  rw[List.getElem?_map] at h2
  obtain ⟨p',Uy,rfl⟩:=Option.map_eq_some_iff.1 h2
  rw[List.getElem?_map] at Uy
  obtain ⟨i',O0,rfl⟩:=Option.map_eq_some_iff.1 Uy
  obtain ⟨hi,rfl⟩:i<len∧i=i':=by
   have hi:=(zB O0).1
   rw[List.length_range] at hi
   rw[List.getElem?_range hi] at O0
   exact ⟨hi,zC O0⟩
  have hr:=(zB h3).1
  rw[(World.cells?_some (hq i hi).1).2.1] at hr
  have h4:=(World.cells?_some (hq i hi).1).2.2 r hr
  rw[Go.WideShapes.add_plain,Go.WideShapes.add_plain] at h4
  rw[←Nat.add_assoc,h4,h3]
theorem lf {α:Type} (f:α→List Value) (Q:α→Prop):∀(L:List (List Value×DataW H)),(∀p ∈ L,∃a,p.1=f a∧Q a)→∃l:List α,(L.map (·.1)).flatten=l.flatMap f∧L.length=l.length∧∀a ∈ l,Q a
 |[],_=>⟨[],rfl,rfl,fun a h=>by simp at h⟩
 |c::L,h=>by
  obtain ⟨a,e,ha⟩:=h c (List.mem_cons_self ..)
  obtain ⟨l,h1,h2,h3⟩:=lf f Q L (fun cs cn=>h cs (zF _ cn))
  refine ⟨a::l,by rw[List.map_cons,List.flatten_cons,List.flatMap_cons,h1,e],by rw[List.length_cons,List.length_cons,h2],fun x hx=>?_⟩
  rcases List.mem_cons.1 hx with rfl|hx
  ·exact ha
  ·exact h3 x hx
theorem nh {L:List (List Value×DataW H)}{n:Nat} (h:Rows.uptoBulkAll (L.map (·.2))≤n):L.length≤n:=by have:=wT (L.map (·.2));rw[List.length_map] at this;omega
theorem nw {d:DataW H}:∀{l:List (DataW H)},d ∈ l→Rows.uptoBulk d≤Rows.uptoBulkAll l
 |[],h=>by simp at h
 |e::r,h=>by
  simp only[Rows.uptoBulkAll]
  rcases List.mem_cons.1 h with rfl|h
  ·omega
  ·have:=nw h;omega
theorem EU:Tryz.prog.cellsOf 3=1:=by kernel_rfl
theorem qQ:Tryz.prog.cellsOf 9=1:=by kernel_rfl
theorem AO:Tryz.prog.cellsOf 22=1:=by kernel_rfl
theorem MG:Tryz.prog.cellsOf 62=1:=by kernel_rfl
theorem TF:Tryz.prog.cellsOf 61=1:=by kernel_rfl
theorem TE:Tryz.prog.cellsOf 66=1:=by kernel_rfl
theorem MI:Tryz.prog.cellsOf 24=1:=by kernel_rfl
theorem MH:Tryz.prog.cellsOf 23=1:=by kernel_rfl
theorem nn {n:Int} (h:(Lit.int .i64 n).wf=true):kQ n:=by
 have:=bounds_i64 h
 exact ⟨by omega,by omega⟩
theorem Oj (l:List ByteArray):bS l=l.flatMap (fun s=>[Value.string s]):=by
 induction l with
 |nil=>rfl
 |cons x r ih=>rw[List.flatMap_cons,←ih];rfl
theorem iB {n:ByteArray}{x:DataW H×List MemPlace} (f:x=(.lit (.string n.data.toList),[])) (hb:Rows.uptoBulk x.1≤1048576):n.size≤1048576:=by
 rw[f] at hb
 simp only[Rows.uptoBulk] at hb
 have:n.data.toList.length=n.size:=rfl
 omega
theorem ni {fuel:Nat}{v:Value}{x:DataW H×List MemPlace} (h:DataW.trod enc Tryz.prog w base spare held fuel 22 [v]=some x) (hw:Rows.uptoBulk x.1≤1048576) :
  ∃l:List ByteArray,Rl w v l.length (bS l)∧l.length≤Rows.uptoBulk x.1∧∀s ∈ l,s.size≤1048576:=by
 obtain ⟨L,h1,h2,h3⟩:=la (k:=1) Tryz.underlying22 qQ (by omega) h hw
 obtain ⟨l,e1,e2,e3⟩:=lf (fun s:ByteArray=>[Value.string s]) (fun s=>s.size≤1048576) L (fun p hp=>by
  obtain ⟨m,y,-,-,q,hy⟩:=h3 p hp
  have hb:=nw (List.mem_map.2 ⟨p,hp,rfl⟩:p.2 ∈ L.map (·.2))
  rw[←hy] at hb
  obtain ⟨s,e,f,-⟩:=DataW.trod_string Tryz.underlying9 q
  exact ⟨s,e,iB f (by omega)⟩)
 have h4:=nh h2
 rw[e1,e2,←Oj] at h1
 exact ⟨l,h1,by omega,e3⟩
theorem BM {fuel:Nat}{v:Value}{x:DataW H×List MemPlace} (h:DataW.trod enc Tryz.prog w base spare held fuel 62 [v]=some x) (hw:Rows.uptoBulk x.1≤1048576) :
  ∃l:List (Int×Int),Rl w v l.length (kz l)∧l.length≤Rows.uptoBulk x.1∧∀p ∈ l,kQ p.1∧kQ p.2:=by
 obtain ⟨L,h1,h2,h3⟩:=la (k:=2) Tryz.underlying62 (by kernel_rfl) (by omega) h hw
 obtain ⟨l,e1,e2,e3⟩:=lf (fun p:Int×Int=>[Value.int .i64 p.1,.int .i64 p.2]) (fun p=>kQ p.1∧kQ p.2) L (fun p hp=>by
  obtain ⟨m,y,-,hl,q,-⟩:=h3 p hp
  obtain ⟨cs,dd⟩:=p
  simp only at hl q ⊢
  obtain ⟨xs,k,-,-,-,Ae,hf⟩:=DataW.trod_struct Tryz.underlying111 q
  match xs,Ae,cs,hl with
  |[y0,y1],_,[v0,v1],_ =>
   have g0:=hf 0 _ rfl
   have g1:=hf 1 _ rfl
   simp[EU] at g0 g1
   obtain ⟨n0,e0,-,f0⟩:=DataW.trod_int Tryz.underlying3 g0
   obtain ⟨n1,e1,-,f1⟩:=DataW.trod_int Tryz.underlying3 g1
   simp at e0 e1
   subst e0 e1
   exact ⟨(n0,n1),rfl,nn f0,nn f1⟩)
 have h4:=nh h2
 rw[e1,e2] at h1
 exact ⟨l,h1,by omega,e3⟩
theorem Ku {fuel:Nat}{v:Value}{x:DataW H×List MemPlace} (h:DataW.trod enc Tryz.prog w base spare held fuel 66 [v]=some x) (hw:Rows.uptoBulk x.1≤1048576) :
  ∃l:List (ByteArray×Int),Rl w v l.length (wH l)∧l.length≤Rows.uptoBulk x.1∧∀p ∈ l,p.1.size≤1048576∧kQ p.2:=by
 obtain ⟨L,h1,h2,h3⟩:=la (k:=2) Tryz.underlying66 (by kernel_rfl) (by omega) h hw
 obtain ⟨l,e1,e2,e3⟩:=lf (fun p:ByteArray×Int=>[Value.string p.1,.int .i64 p.2]) (fun p=>p.1.size≤1048576∧kQ p.2) L (fun p hp=>by
  obtain ⟨m,y,-,hl,q,hy⟩:=h3 p hp
  have hb:=nw (List.mem_map.2 ⟨p,hp,rfl⟩:p.2 ∈ L.map (·.2))
  rw[←hy] at hb
  obtain ⟨cs,dd⟩:=p
  simp only at hl q ⊢
  obtain ⟨xs,k,-,OM,-,Ae,hf⟩:=DataW.trod_struct Tryz.underlying94 q
  match xs,Ae,cs,hl with
  |[y0,y1],_,[v0,v1],_ =>
   have g0:=hf 0 _ rfl
   have g1:=hf 1 _ rfl
   simp[EU,qQ] at g0 g1
   rw[OM] at hb
   simp only[List.map_cons,List.map_nil,Rows.uptoBulk,Rows.uptoBulkAll] at hb
   obtain ⟨n0,e0,f0,-⟩:=DataW.trod_string Tryz.underlying9 g0
   obtain ⟨n1,e1,-,f1⟩:=DataW.trod_int Tryz.underlying3 g1
   simp at e0 e1
   subst e0 e1
   exact ⟨(n0,n1),rfl,iB f0 (by omega),nn f1⟩)
 have h4:=nh h2
 rw[e1,e2] at h1
 exact ⟨l,h1,by omega,e3⟩
theorem Kw {fuel:Nat}{v:Value}{x:DataW H×List MemPlace} (h:DataW.trod enc Tryz.prog w base spare held fuel 61 [v]=some x) (hw:Rows.uptoBulk x.1≤1048576) :
  ∃l:List Fd,Rl w v l.length (gX l)∧l.length≤Rows.uptoBulk x.1∧∀d ∈ l,Uh d:=by
 obtain ⟨L,h1,h2,h3⟩:=la (k:=6) Tryz.underlying61 (by kernel_rfl) (by omega) h hw
 obtain ⟨l,e1,e2,e3⟩:=lf (fun d:Fd=>d.arr.toList) Uh L (fun p hp=>by
  obtain ⟨m,y,-,hl,q,hy⟩:=h3 p hp
  have hb:=nw (List.mem_map.2 ⟨p,hp,rfl⟩:p.2 ∈ L.map (·.2))
  rw[←hy] at hb
  obtain ⟨cs,dd⟩:=p
  simp only at hl q ⊢
  obtain ⟨xs,k,-,OM,-,Ae,hf⟩:=DataW.trod_struct Tryz.underlying70 q
  match xs,Ae,cs,hl with
  |[y0,y1,y2,y3,y4,y5],_,[v0,v1,v2,v3,v4,v5],_ =>
   have g0:=hf 0 _ rfl
   have g1:=hf 1 _ rfl
   have g2:=hf 2 _ rfl
   have g3:=hf 3 _ rfl
   have g4:=hf 4 _ rfl
   have g5:=hf 5 _ rfl
   simp[EU,qQ] at g0 g1 g2 g3 g4 g5
   rw[OM] at hb
   simp only[List.map_cons,List.map_nil,Rows.uptoBulk,Rows.uptoBulkAll] at hb
   obtain ⟨n0,e0,-,f0⟩:=DataW.trod_int Tryz.underlying3 g0
   obtain ⟨n1,e1,f1,-⟩:=DataW.trod_string Tryz.underlying9 g1
   obtain ⟨n2,e2,f2,-⟩:=DataW.trod_string Tryz.underlying9 g2
   obtain ⟨n3,e3,f3,-⟩:=DataW.trod_string Tryz.underlying9 g3
   obtain ⟨n4,e4,-,f4⟩:=DataW.trod_int Tryz.underlying3 g4
   obtain ⟨n5,e5,-,f5⟩:=DataW.trod_int Tryz.underlying3 g5
   simp at e0 e1 e2 e3 e4 e5
   subst e0 e1 e2 e3 e4 e5
   exact ⟨⟨n0,n1,n2,n3,n4,n5⟩,rfl,nn f0,iB f1 (by omega),iB f2 (by omega),iB f3 (by omega),nn f4,nn f5⟩)
 have h4:=nh h2
 rw[e1,e2] at h1
 exact ⟨l,h1,by omega,e3⟩
def abb (w:World) (cs:List Value) (n:Nat) (e:En):Prop:=∃vv vr vg,cs=[.string e.name,vv,vr,vg]∧Rl w vv e.bJ.length (wH e.bJ)∧Rl w vr e.res.length (kz e.res)∧Rl w vg e.gone.length (bS e.gone)∧Jk e∧Gb e≤100*n
theorem FK:∀(L:List (List Value×DataW H)),(∀p ∈ L,∃e,abb w p.1 (Rows.uptoBulk p.2) e)→∃l:List En,Dw w (L.map (·.1)).flatten l∧L.length=l.length∧(∀e ∈ l,Jk e)∧bG Gb l≤100*Rows.uptoBulkAll (L.map (·.2))
 |[],_=>⟨[],.nil,rfl,fun a h=>by simp at h,Nat.zero_le _⟩
 |c::L,h=>by
  obtain ⟨e,vv,vr,vg,ee,a1,a2,a3,a4,a5⟩:=h c (List.mem_cons_self ..)
  obtain ⟨l,h1,h2,h3,h4⟩:=FK L (fun cs cn=>h cs (zF _ cn))
  refine ⟨e::l,by rw[List.map_cons,List.flatten_cons,ee];exact .cons a1 a2 a3 h1,by rw[List.length_cons,List.length_cons,h2],fun x hx=>?_,by simp only[bG,List.map_cons,Rows.uptoBulkAll];omega⟩
  rcases List.mem_cons.1 hx with rfl|hx
  ·exact a4
  ·exact h3 x hx
theorem BN {fuel:Nat}{v:Value}{x:DataW H×List MemPlace} (h:DataW.trod enc Tryz.prog w base spare held fuel 24 [v]=some x) (hw:Rows.uptoBulk x.1≤1048576) :
  ∃(l:List En) (cs:List Value),Rl w v l.length cs∧Dw w cs l∧l.length≤1048576∧(∀e ∈ l,Jk e)∧bG Gb l≤100*Rows.uptoBulk x.1:=by
 obtain ⟨L,h1,h2,h3⟩:=la (k:=4) Tryz.underlying24 (by kernel_rfl) (by omega) h hw
 obtain ⟨l,e1,e2,e3,e4⟩:=FK (w:=w) L (fun p hp=>by
  obtain ⟨m,y,-,hl,q,hy⟩:=h3 p hp
  have hb:=nw (List.mem_map.2 ⟨p,hp,rfl⟩:p.2 ∈ L.map (·.2))
  rw[←hy] at hb ⊢
  obtain ⟨cs,dd⟩:=p
  simp only at hl q ⊢
  obtain ⟨xs,k,-,OM,-,Ae,hf⟩:=DataW.trod_struct Tryz.underlying68 q
  match xs,Ae,cs,hl with
  |[y0,y1,y2,y3],_,[v0,v1,v2,v3],_ =>
   have g0:=hf 0 _ rfl
   have g1:=hf 1 _ rfl
   have g2:=hf 2 _ rfl
   have g3:=hf 3 _ rfl
   simp[qQ,AO,MG,TE] at g0 g1 g2 g3
   rw[OM] at hb ⊢
   simp only[List.map_cons,List.map_nil,Rows.uptoBulk,Rows.uptoBulkAll] at hb ⊢
   obtain ⟨n0,e0,f0,-⟩:=DataW.trod_string Tryz.underlying9 g0
   obtain ⟨l1,a1,b1,c1⟩:=Ku g1 (by omega)
   obtain ⟨l2,a2,b2,c2⟩:=BM g2 (by omega)
   obtain ⟨l3,a3,b3,c3⟩:=ni g3 (by omega)
   simp at e0
   subst e0
   exact ⟨⟨n0,l1,l2,l3⟩,v1,v2,v3,rfl,a1,a2,a3,⟨iB f0 (by omega),by show l1.length≤_;omega,c1,by show l2.length≤_;omega,c2,by show l3.length≤_;omega,c3⟩,by show 20*l2.length+10*l3.length+20*l1.length+80≤_;omega⟩)
 have h4:=nh h2
 rw[e2] at h1 h4
 exact ⟨l,_,h1,e1,by omega,e3,by omega⟩
def aa1 (w:World) (cs:List Value) (n:Nat) (m:Ms):Prop:=∃vf vo vm ve vr vg nm fs os ms es rs gs cm ce,cs=[.string nm,vf,vo,vm,ve,vr,vg]∧XO w m vf vo vm ve vr vg nm fs os ms es rs gs cm ce∧∀f,C0 f m∧DX f m≤100*n
theorem FJ:∀(L:List (List Value×DataW H)),(∀p ∈ L,∃m,aa1 w p.1 (Rows.uptoBulk p.2) m)→∃l:List Ms,Dm w (L.map (·.1)).flatten l∧L.length=l.length∧∀f,(∀m ∈ l,C0 f m)∧bG (DX f) l≤100*Rows.uptoBulkAll (L.map (·.2))
 |[],_=>⟨[],.nil,rfl,fun f=>⟨fun a h=>by simp at h,Nat.zero_le _⟩⟩
 |c::L,h=>by
  obtain ⟨m,vf,vo,vm,ve,vr,vg,nm,fs,os,ms,es,rs,gs,cm,ce,ee,hV,ha⟩:=h c (List.mem_cons_self ..)
  obtain ⟨l,h1,h2,h3⟩:=FJ L (fun cs cn=>h cs (zF _ cn))
  obtain rfl:=hV.is
  refine ⟨_::l,by rw[List.map_cons,List.flatten_cons,ee];exact .cons hV.hf hV.ho hV.hm hV.jQ hV.he hV.mx hV.hr hV.hg h1,by rw[List.length_cons,List.length_cons,h2],fun f=>⟨fun x hx=>?_,?_⟩⟩
  ·rcases List.mem_cons.1 hx with rfl|hx
   ·exact (ha f).1
   ·exact (h3 f).1 x hx
  ·have:=(h3 f).2
   have:=(ha f).2
   simp only[bG,List.map_cons,Rows.uptoBulkAll]
   omega
theorem RB {nm:ByteArray}{fs:List Fd}{os:List ByteArray}{ms:List Ms}{es:List En}{rs:List (Int×Int)}{gs:List ByteArray}{n:Nat} (h:MSz nm fs ms es rs gs) (hm:∀f,(∀m ∈ ms,C0 f m)∧bG (DX f) ms≤100*n) {q n2:Nat} (he:bG Gb es≤100*n2) (Jn:1+fs.length+rs.length+gs.length+n+n2≤q):∀f,C0 f (.mk nm fs os ms es rs gs)∧DX f (.mk nm fs os ms es rs gs)≤100*q
 |0=>⟨trivial,Nat.zero_le _⟩
 |f+1=>⟨⟨h,(hm f).1⟩,by have:=(hm f).2;show 100+100*fs.length+(20*rs.length+10*gs.length)+bG (DX f) ms+bG Gb es≤_;omega⟩
theorem Kv:∀(fuel:Nat) (v:Value) (x:DataW H×List MemPlace),DataW.trod enc Tryz.prog w base spare held fuel 23 [v]=some x→Rows.uptoBulk x.1≤1048576 →
  ∃(l:List Ms) (cs:List Value),Rl w v l.length cs∧Dm w cs l∧l.length≤1048576∧∀f,(∀m ∈ l,C0 f m)∧bG (DX f) l≤100*Rows.uptoBulk x.1:=by
 intro fuel
 induction fuel using Nat.strongRecOn with
 |ind fuel ih =>
  intro v x h hw
  obtain ⟨L,h1,h2,h3⟩:=la (k:=7) Tryz.underlying23 (by kernel_rfl) (by omega) h hw
  obtain ⟨l,e1,e2,e3⟩:=FJ (w:=w) L (fun p hp=>by
   obtain ⟨m,y,WC,hl,q,hy⟩:=h3 p hp
   have hb:=nw (List.mem_map.2 ⟨p,hp,rfl⟩:p.2 ∈ L.map (·.2))
   rw[←hy] at hb ⊢
   obtain ⟨cs,dd⟩:=p
   simp only at hl q ⊢
   obtain ⟨xs,k,hk,OM,-,Ae,hf⟩:=DataW.trod_struct Tryz.underlying64 q
   match xs,Ae,cs,hl with
   |[y0,y1,y2,y3,y4,y5,y6],_,[v0,v1,v2,v3,v4,v5,v6],_ =>
    have g0:=hf 0 _ rfl
    have g1:=hf 1 _ rfl
    have g2:=hf 2 _ rfl
    have g3:=hf 3 _ rfl
    have g4:=hf 4 _ rfl
    have g5:=hf 5 _ rfl
    have g6:=hf 6 _ rfl
    simp[qQ,AO,MG,TF,MH,MI] at g0 g1 g2 g3 g4 g5 g6
    rw[OM] at hb ⊢
    simp only[List.map_cons,List.map_nil,Rows.uptoBulk,Rows.uptoBulkAll] at hb ⊢
    obtain ⟨n0,e0,f0,-⟩:=DataW.trod_string Tryz.underlying9 g0
    obtain ⟨l1,a1,b1,c1⟩:=Kw g1 (by omega)
    obtain ⟨l2,a2,b2,-⟩:=ni g2 (by omega)
    obtain ⟨l3,cm,a3,d3,b3,c3⟩:=ih k (by omega) v3 y3 g3 (by omega)
    obtain ⟨l4,ce,a4,d4,b4,c4,c5⟩:=BN g4 (by omega)
    obtain ⟨l5,a5,b5,c6⟩:=BM g5 (by omega)
    obtain ⟨l6,a6,b6,c7⟩:=ni g6 (by omega)
    simp at e0
    subst e0
    exact ⟨.mk n0 l1 l2 l3 l4 l5 l6,v1,v2,v3,v4,v5,v6,n0,l1,l2,l3,l4,l5,l6,cm,ce,rfl,⟨rfl,a1,a2,a3,d3,a4,d4,a5,a6⟩,RB ⟨iB f0 (by omega),by omega,c1,b3,b4,c4,by omega,c6,by omega,c7⟩ c3 c5 (by omega)⟩)
  have h4:=nh h2
  rw[e2] at h1 h4
  exact ⟨l,_,h1,e1,by omega,fun f=>⟨(e3 f).1,by have:=(e3 f).2;omega⟩⟩
theorem Hm {fuel:Nat}{cs:List Value}{x:DataW H×List MemPlace} (h:DataW.trod enc Tryz.prog w base spare held fuel 26 cs=some x) (hw:Rows.uptoBulk x.1≤1048576) :
  ∃(F:Fl) (vi vm ve:Value) (cm ce:List Value),cs=[.string F.fW,vi,vm,ve]∧Rh w (.agg #[.string F.fW,vi,vm,ve]) F vi vm ve cm ce∧Nn F:=by
 obtain ⟨xs,k,-,OM,hl,Ae,hf⟩:=DataW.trod_struct Tryz.underlying26 h
 rw[show Tryz.prog.cellsOf 26=4 by kernel_rfl] at hl
 match xs,Ae,cs,hl with
 |[y0,y1,y2,y3],_,[v0,v1,v2,v3],_ =>
  have g0:=hf 0 _ rfl
  have g1:=hf 1 _ rfl
  have g2:=hf 2 _ rfl
  have g3:=hf 3 _ rfl
  simp[qQ,AO,MH,MI] at g0 g1 g2 g3
  rw[OM] at hw
  simp only[List.map_cons,List.map_nil,Rows.uptoBulk,Rows.uptoBulkAll] at hw
  obtain ⟨n0,e0,f0,-⟩:=DataW.trod_string Tryz.underlying9 g0
  obtain ⟨l1,a1,b1,c1⟩:=ni g1 (by omega)
  obtain ⟨l2,cm,a2,d2,b2,c2⟩:=Kv k v2 y2 g2 (by omega)
  obtain ⟨l3,ce,a3,d3,b3,c3,b4⟩:=BN g3 (by omega)
  simp at e0
  subst e0
  exact ⟨⟨n0,l1,l2,l3⟩,v1,v2,v3,cm,ce,rfl,⟨rfl,a1,a2,d2,a3,d3⟩,⟨iB f0 (by omega),by show l1.length≤_;omega,c1,b2,(c2 30).1,by have:=(c2 30).2;show bG (DX 30) l2≤_;omega,b3,c3,by show bG Gb l3≤_;omega⟩⟩
end
end Go.Proofs.YtmlphohdcejniaaGreatDoor

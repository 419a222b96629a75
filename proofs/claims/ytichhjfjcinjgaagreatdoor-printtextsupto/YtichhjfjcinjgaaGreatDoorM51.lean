import Derived.Test.YtichhjfjcinjgaaGreatDoorM39
import Derived.Test.YtichhjfjcinjgaaGreatDoorYDq
import Derived.Test.YtichhjfjcinjgaaGreatDoorRows
import Derived.OpenShut
import Derived.Deep.Slices
import Derived.SizedLaws
import Derived.Lib.LaidU8
import Derived.ProofKit
set_option maxHeartbeats 8000000
set_option maxRecDepth 100000
namespace Go.Proofs.YtichhjfjcinjgaaGreatDoor
open Go.RowKit
attribute [local go_sem ↓] Go.wp_at_zero Go.wp_at_succ
theorem xM:∀(k f:Nat) (m:Ms),tG k m→tG k (lN f m)
 |0,_,_,_=>trivial
 |k+1,0,.mk _ _ _ _ _ _ _,h=>⟨h.1,fun m hm=>by simp at hm⟩
 |k+1,f+1,.mk _ _ _ _ _ _ _,h=>⟨h.1,fun m hm=>by obtain ⟨x,hx,rfl⟩:=List.mem_map.1 hm;exact xM k f x (h.2 x hx)⟩
theorem Eg:∀(k f:Nat) (m:Ms),cR k (lN f m)≤cR k m
 |0,_,_=>zD _
 |k+1,0,.mk _ _ _ _ _ _ _=>by simp only[lN,cR,bE];omega
 |k+1,f+1,.mk _ _ _ ms _ _ _=>by
  have:bE (cR k) (ms.map (lN f))≤bE (cR k) ms:=by
   induction ms with
   |nil=>exact zD _
   |cons m r ih=>simp only[List.map_cons,bE];have:=Eg k f m;omega
  simp only[lN,cR];omega
theorem G2:∀(k f:Nat) (m:Ms),El k m→El k (lN f m)
 |0,0,.mk _ _ _ _ _ _ _,h=>by obtain ⟨a,b,-,c⟩:=h.s;exact ⟨a,b,by simp,c⟩
 |0,f+1,.mk _ _ _ _ _ _ _,h=>by obtain ⟨a,b,c,d⟩:=h.s;exact ⟨a,b,by rw[List.length_map];exact c,d⟩
 |k+1,0,.mk _ _ _ _ _ _ _,h=>by obtain ⟨a,b,-,c⟩:=h.s;exact ⟨⟨a,b,by simp,c⟩,fun m hm=>by simp at hm⟩
 |k+1,f+1,.mk _ _ _ _ _ _ _,h=>by
  obtain ⟨a,b,c,d⟩:=h.s
  exact ⟨⟨a,b,by rw[List.length_map];exact c,d⟩,fun m hm=>by obtain ⟨x,hx,rfl⟩:=List.mem_map.1 hm;exact G2 k f x (h.2 x hx)⟩
theorem JC.cut {F:Fl} (h:JC F):JC (qf F):=⟨h.i,by show (F.ms.map _).length*160≤_;rw[List.length_map];exact h.m,fun m hm=>by obtain ⟨x,hx,rfl⟩:=List.mem_map.1 (show m ∈ F.ms.map (lN 199) from hm);exact G2 200 199 x (h.ms x hx),h.e,h.es⟩
theorem A5 (F:Fl):kG (qf F)≤kG F:=by
 have:∀ms:List Ms,bE (cR 32) (ms.map (lN 199))≤bE (cR 32) ms:=fun ms=>by
  induction ms with
  |nil=>exact zD _
  |cons m r ih=>simp only[List.map_cons,bE];have:=Eg 32 199 m;omega
 have:=this F.ms
 show F.cX.length+bE (cR 32) (F.ms.map (lN 199))+bE kF F.es≤F.cX.length+bE (cR 32) F.ms+bE kF F.es
 omega
theorem Ra {w:World}{b:Nat}{v0 v1 v2 v3:Value}{t:TypeId} (h:w.heap[b]?=some (.cells #[v0,v1,v2,v3] t (0,0))) (u0 u1 u2 u3:Value) :
  ((((w.setCell ⟨b,0,none⟩ u0).setCell ⟨b,1,none⟩ u1).setCell ⟨b,2,none⟩ u2).setCell ⟨b,3,none⟩ u3).heap[b]?=some (.cells #[u0,u1,u2,u3] t (0,0))∧w.grownBy ((((w.setCell ⟨b,0,none⟩ u0).setCell ⟨b,1,none⟩ u1).setCell ⟨b,2,none⟩ u2).setCell ⟨b,3,none⟩ u3) (some b):=by
 obtain ⟨a1,a2⟩:=bh (j:=0) h u0
 obtain ⟨b1,b2⟩:=bh (j:=1) a1 u1
 obtain ⟨c1,c2⟩:=bh (j:=2) b1 u2
 obtain ⟨d1,d2⟩:=bh (j:=3) c1 u3
 exact ⟨d1,((a2.trans b2).trans c2).trans d2⟩
theorem D7 {w:World}{b:Nat}{cs:Array Value}{t:TypeId} (h:w.heap[b]?=some (.cells cs t (0,0))):w.frozen? ⟨b,0,none⟩=false∧w.frozen? ⟨b,1,none⟩=false∧w.frozen? ⟨b,2,none⟩=false∧w.frozen? ⟨b,3,none⟩=false:=by simp[World.frozen?,h]
theorem iJ {R:Nat→Prop}{w:World}{v vi vm ve:Value}{F:Fl}{cm ce:List Value} (h:J0 R w v F vi vm ve cm ce):∃bi di bm dm be de,vi=.slice bi F.cX.length di∧vm=.slice bm F.ms.length dm∧ve=.slice be F.es.length de:=by
 obtain ⟨a,b,e1,-⟩:=h.hi.rl
 obtain ⟨c,d,e2,-⟩:=h.hm.rl
 obtain ⟨e,f,e3,-⟩:=h.he.rl
 exact ⟨a,b,c,d,e,f,e1,e2,e3⟩
theorem Sp.file {B:Nat}{w w':World} (h:Sp B w w') {b:Nat}{cs:Array Value} (hb:w.heap[b]?=some (.cells cs 26 (0,0))):w'.heap[b]?=some (.cells cs 26 (0,0)):=by
 by_cases aM:b<B
 ·exact (h.bU.block b aM).trans hb
 ·obtain ⟨c',h1,h2,h3⟩:=h.dt b cs _ (by omega) hb
  have:c'=cs:=by
   apply Array.ext_getElem?
   intro j
   by_cases hj:j<cs.size
   ·rw[Array.getElem?_eq_getElem hj]
    rcases h3 j _ (Array.getElem?_eq_getElem hj) with e|⟨y,-,hy⟩
    ·exact e
    ·exact absurd hy (xQ y)
   ·rw[Array.getElem?_eq_none (by omega),Array.getElem?_eq_none (by omega)]
  rw[h1,this]
structure MP (F G:Fl):Prop where
 i:G.cX.length=F.cX.length
 m:Bd F.ms G.ms
 e:FP F.es G.es
theorem MP.re {F G:Fl} (h:MP F G) (k:JC F):JC G:=⟨by rw[h.i];exact k.i,by rw[h.m.len];exact k.m,h.m.re 200 k.ms,by rw[h.e.len];exact k.e,h.e.re k.es⟩
theorem MP.T7 {F G:Fl} (h:MP F G):kG G=kG F:=by simp only[kG,h.i,h.m.sum,h.e.sum]
theorem mQ {W:World}{v vi vm ve:Value}{F:Fl}{cm ce:List Value} (hM:gX W) (hE:jM W) (hP:il W) (hF:ir W) (qW:xE W v F vi vm ve cm ce) (kI:∀m ∈ F.ms,tG 32 m) :
  Calls Tryz.prog 14 #[v] W fun e w=>e=.returned (.int .i64 (fO F).2)∧Below W.heap.size W w:=by
 have bG:Below W.heap.size W (W.alloc (.cells #[.string F.jr,vi,vm,ve] 26)):=(zE _ _).alloc (zD _) _
 have k0:=aJ W (.cells #[.string F.jr,vi,vm,ve] 26)
 obtain ⟨V,hV⟩:∃V,W.alloc (.cells #[.string F.jr,vi,vm,ve] 26)=V:=⟨_,rfl⟩
 rw[hV] at bG k0
 have HT:=al (kK (hM.up bG hM.1) (hE.up bG) (hP.up bG) (hF.up bG) (qW.up bG) kI)
 obtain ⟨pk,is,ms,es⟩:=F
 obtain ⟨rfl,⟨ai,ci,rfl,-,-⟩,⟨am,cm1,rfl,-,-⟩,-,⟨ae,ce1,rfl,-,-⟩,-⟩:=qW
 simp only at hV k0 HT ⊢
 obtain ⟨c0,c1,c2,c3⟩:=aP k0
 have HB:=al bG
 obtain ⟨⟨t1,t2⟩,ht⟩:∃T,fO ⟨pk,is,ms,es⟩=T:=⟨_,rfl⟩
 rw[ht] at HT ⊢
 simp only at HT ⊢
 clear hM hE hP hF kI k0 bG ht
 go_enter Tryz.func14,Tryz.ntmps14
 go_wp2_with fail
 refine (ab HT).mono ?_
 rintro e w1 ⟨rfl,aX⟩
 have cO:=al ((ab HB).trans (aX.mono (ab HB).size))
 clear aX HB HT
 go_wp2
 go_ret
 exact ⟨rfl,ab cO⟩
end Go.Proofs.YtichhjfjcinjgaaGreatDoor
namespace Go.Proofs.YtichhjfjcinjgaaGreatDoor
open Go.ChangeShapes Go.WideShapes Go.RowKit
theorem Jo {H:Type} (d:DataW H):1≤Rows.uptoBulk d:=by
 cases d with
 |lit a=>cases a<;>simp[Rows.uptoBulk]
 |_=>simp[Rows.uptoBulk]
theorem vu {H:Type}:∀l:List (DataW H),l.length≤Rows.uptoBulkAll l
 |[]=>Nat.zero_le _
 |d::r=>by have:=vu r;have:=Jo d;simp only[List.length_cons,Rows.uptoBulkAll];omega
theorem D9 {k:Nat}{x:Value}:∀(L:List (List Value)) (j:Nat),(∀cs ∈ L,cs.length=k)→L.flatten[j]?=some x→∃i r cs,j=i*k+r∧L[i]?=some cs∧cs[r]?=some x
 |[],j,_,h=>by simp at h
 |c::L,j,hk,h=>by
  rw[List.flatten_cons] at h
  have hc:=hk c (List.mem_cons_self ..)
  by_cases hj:j<c.length
  ·rw[List.getElem?_append_left hj] at h
   exact ⟨0,j,c,by omega,rfl,h⟩
  ·rw[List.getElem?_append_right (by omega)] at h
   obtain ⟨i,r,cs,h1,h2,h3⟩:=D9 L _ (fun cs rk=>hk cs (zF _ rk)) h
   exact ⟨i+1,r,cs,by rw[Nat.succ_mul];omega,h2,h3⟩
section
variable {H : Type} {enc : TypeId × Value → H} {w : World} {base : Nat} {spare : Nat → Bool} {held : Bool}
def JH (enc:TypeId×Value→H) (w:World) (base:Nat) (spare:Nat→Bool) (held:Bool) (fuel te k:Nat) (p:List Value×DataW H):Prop:=∃m y,m<fuel∧p.1.length=k∧DataW.trod enc Tryz.prog w base spare held m te p.1=some y∧y.1=p.2
theorem kS {fuel ts te k:Nat} (hu:Tryz.prog.underlying ts=some (.slice te)) (hk:Tryz.prog.cellsOf te=k) (WB:0<k) {v:Value}{x:DataW H×List MemPlace} (h:DataW.trod enc Tryz.prog w base spare held fuel ts [v]=some x) (hw:Rows.uptoBulk x.1≤1048576) :
  ∃L:List (List Value×DataW H),Rl w v L.length (L.map (·.1)).flatten∧Rows.uptoBulkAll (L.map (·.2))≤Rows.uptoBulk x.1∧∀p ∈ L,JH enc w base spare held fuel te k p:=by
 rcases DataW.trod_slice hu h with ⟨rk,rfl⟩|⟨y,len,cap,elems,rest,n,rfl,rk,rfl,_,hl,hm,hel,pF,_,_⟩
 ·obtain rfl:v=.slice none 0 0:=by simpa using rk
  exact ⟨[],lF _ _,Nat.zero_le _,fun cs h=>by simp at h⟩
 ·obtain rfl:v=.slice (some y) len cap:=by simpa using rk
  dsimp only at hw ⊢
  have each:∀i,i<len→∃p:List Value×DataW H,w.cells? base (y.add (i*k)) k=some p.1∧JH enc w base spare held (n+1) te k p∧(elems.map (·.1))[i]?=some p.2:=by
   intro i hi
   have q:=pF i hi
   rw[hk] at q
   have ZT:elems[i]?=some elems[i]:=List.getElem?_eq_getElem (by omega)
   rw[ZT] at q
   obtain ⟨cs,h1,h2⟩:=Option.bind_eq_some_iff.1 q
   exact ⟨(cs,elems[i].1),h1,⟨n,elems[i],by omega,(World.cells?_some h1).2.1,h2,rfl⟩,by rw[List.getElem?_map,ZT];rfl⟩
  obtain ⟨q,hq⟩:=Go.Deep.choose_lt each
  have hlen:((List.range len).map q).length=len:=by simp
  have Wh:((List.range len).map q).map (·.2)=elems.map (·.1):=by
   apply List.ext_getElem?
   intro i
   by_cases hi:i<len
   ·rw[(hq i hi).2.2,List.getElem?_map,List.getElem?_map,List.getElem?_range hi];rfl
   ·rw[List.getElem?_eq_none (by rw[List.length_map,hlen];omega),List.getElem?_eq_none (by rw[List.length_map];omega)]
  have IH:∀cs ∈ (List.range len).map q,JH enc w base spare held (n+1) te k cs:=by
   intro cs rk
   obtain ⟨i,hi,rfl⟩:=List.mem_map.1 rk
   exact (hq i (List.mem_range.1 hi)).2.1
  have bR:Rows.uptoBulkAll (((List.range len).map q).map (·.2))+1≤Rows.uptoBulk (DataW.slice (elems.map (·.1)) (rest.map (·.1)):DataW H):=by
   rw[Wh];simp only[Rows.uptoBulk];omega
  have hn:len≤1048576:=by
   have:=vu (((List.range len).map q).map (·.2))
   rw[List.length_map,hlen] at this
   have:=hw
   omega
  refine ⟨(List.range len).map q,⟨some y,cap,by rw[hlen],by rw[hlen];omega,fun hp=>?_⟩,by omega,IH⟩
  rw[hlen] at hp
  have h0:w.cell? ((y.add (0*k)).add 0)=some _:=((World.cells?_some (hq 0 hp).1).2.2 0 WB).trans (List.getElem?_eq_getElem (by rw[(World.cells?_some (hq 0 hp).1).2.1];exact WB))
  obtain ⟨g,o,spot⟩:=y
  have RG:spot=none:=by simpa[Addr.add] using World.cell?_spot h0
  subst RG
  have hg:g<w.heap.size:=by
   rw[Go.Deep.add_add,Go.WideShapes.add_plain] at h0
   exact World.block_lt_of_cell? w _ h0
  refine ⟨g,o,rfl,hg,fun j x hx=>?_⟩
  obtain ⟨i,r,cs,rfl,h2,h3⟩:=D9 (k:=k) _ j (fun cs rk=>by obtain ⟨p,hp,rfl⟩:=List.mem_map.1 rk;exact (IH p hp).choose_spec.choose_spec.2.1) hx
  rw[List.getElem?_map] at h2
  obtain ⟨p',oY,rfl⟩:=Option.map_eq_some_iff.1 h2
  rw[List.getElem?_map] at oY
  obtain ⟨i',IJ,rfl⟩:=Option.map_eq_some_iff.1 oY
  obtain ⟨hi,rfl⟩:i<len∧i=i':=by
   have hi:=(zB IJ).1
   rw[List.length_range] at hi
   rw[List.getElem?_range hi] at IJ
   exact ⟨hi,zC IJ⟩
  have hr:=(zB h3).1
  rw[(World.cells?_some (hq i hi).1).2.1] at hr
  have h4:=(World.cells?_some (hq i hi).1).2.2 r hr
  rw[Go.WideShapes.add_plain,Go.WideShapes.add_plain] at h4
  rw[←Nat.add_assoc,h4,h3]
theorem kV {α:Type} (f:α→List Value) (Q:α→Prop):∀(L:List (List Value×DataW H)),(∀p ∈ L,∃a,p.1=f a∧Q a)→∃l:List α,(L.map (·.1)).flatten=l.flatMap f∧L.length=l.length∧∀a ∈ l,Q a
 |[],_=>⟨[],rfl,rfl,fun a h=>by simp at h⟩
 |c::L,h=>by
  obtain ⟨a,e,ha⟩:=h c (List.mem_cons_self ..)
  obtain ⟨l,h1,h2,h3⟩:=kV f Q L (fun cs rk=>h cs (zF _ rk))
  refine ⟨a::l,by rw[List.map_cons,List.flatten_cons,List.flatMap_cons,h1,e],by rw[List.length_cons,List.length_cons,h2],fun x hx=>?_⟩
  rcases List.mem_cons.1 hx with rfl|hx
  ·exact ha
  ·exact h3 x hx
theorem mO {L:List (List Value×DataW H)}{n:Nat} (h:Rows.uptoBulkAll (L.map (·.2))≤n):L.length≤n:=by have:=vu (L.map (·.2));rw[List.length_map] at this;omega
theorem sX {d:DataW H}:∀{l:List (DataW H)},d ∈ l→Rows.uptoBulk d≤Rows.uptoBulkAll l
 |[],h=>by simp at h
 |e::r,h=>by
  simp only[Rows.uptoBulkAll]
  rcases List.mem_cons.1 h with rfl|h
  ·omega
  ·have:=sX h;omega
theorem C7:Tryz.prog.cellsOf 3=1:=by kernel_rfl
theorem ql:Tryz.prog.cellsOf 9=1:=by kernel_rfl
theorem yM:Tryz.prog.cellsOf 22=1:=by kernel_rfl
theorem Jj:Tryz.prog.cellsOf 44=1:=by kernel_rfl
theorem OO:Tryz.prog.cellsOf 43=1:=by kernel_rfl
theorem ON:Tryz.prog.cellsOf 65=1:=by kernel_rfl
theorem Jl:Tryz.prog.cellsOf 24=1:=by kernel_rfl
theorem Jk:Tryz.prog.cellsOf 23=1:=by kernel_rfl
theorem mR {fuel:Nat}{v:Value}{x:DataW H×List MemPlace} (h:DataW.trod enc Tryz.prog w base spare held fuel 22 [v]=some x) (hw:Rows.uptoBulk x.1≤1048576) :
  ∃l:List ByteArray,Rl w v l.length (cc l)∧l.length≤Rows.uptoBulk x.1:=by
 obtain ⟨L,h1,h2,h3⟩:=kS (k:=1) Tryz.underlying22 ql (by omega) h hw
 obtain ⟨l,e1,e2,-⟩:=kV (fun s:ByteArray=>[Value.string s]) (fun _=>True) L (fun p hp=>by
  obtain ⟨m,y,-,-,q,-⟩:=h3 p hp
  obtain ⟨s,e,-,-⟩:=DataW.trod_string Tryz.underlying9 q
  exact ⟨s,e,trivial⟩)
 have h4:=mO h2
 rw[e1,e2,←xN] at h1
 exact ⟨l,h1,by omega⟩
theorem As {fuel:Nat}{v:Value}{x:DataW H×List MemPlace} (h:DataW.trod enc Tryz.prog w base spare held fuel 44 [v]=some x) (hw:Rows.uptoBulk x.1≤1048576) :
  ∃l:List (Int×Int),Rl w v l.length (lj l)∧l.length≤Rows.uptoBulk x.1:=by
 obtain ⟨L,h1,h2,h3⟩:=kS (k:=2) Tryz.underlying44 (by kernel_rfl) (by omega) h hw
 obtain ⟨l,e1,e2,-⟩:=kV (fun p:Int×Int=>[Value.int .i64 p.1,.int .i64 p.2]) (fun _=>True) L (fun p hp=>by
  obtain ⟨m,y,-,hl,q,-⟩:=h3 p hp
  obtain ⟨cs,dd⟩:=p
  simp only at hl q ⊢
  obtain ⟨xs,k,-,-,-,y7,hf⟩:=DataW.trod_struct Tryz.underlying111 q
  match xs,y7,cs,hl with
  |[y0,y1],_,[v0,v1],_ =>
   have g0:=hf 0 _ rfl
   have g1:=hf 1 _ rfl
   simp[C7] at g0 g1
   obtain ⟨n0,e0,-,-⟩:=DataW.trod_int Tryz.underlying3 g0
   obtain ⟨n1,e1,-,-⟩:=DataW.trod_int Tryz.underlying3 g1
   simp at e0 e1
   subst e0 e1
   exact ⟨(n0,n1),rfl,trivial⟩)
 have h4:=mO h2
 rw[e1,e2] at h1
 exact ⟨l,h1,by omega⟩
theorem G9 {fuel:Nat}{v:Value}{x:DataW H×List MemPlace} (h:DataW.trod enc Tryz.prog w base spare held fuel 65 [v]=some x) (hw:Rows.uptoBulk x.1≤1048576) :
  ∃l:List (ByteArray×Int),Rl w v l.length (rn l)∧l.length≤Rows.uptoBulk x.1:=by
 obtain ⟨L,h1,h2,h3⟩:=kS (k:=2) Tryz.underlying65 (by kernel_rfl) (by omega) h hw
 obtain ⟨l,e1,e2,-⟩:=kV (fun p:ByteArray×Int=>[Value.string p.1,.int .i64 p.2]) (fun _=>True) L (fun p hp=>by
  obtain ⟨m,y,-,hl,q,-⟩:=h3 p hp
  obtain ⟨cs,dd⟩:=p
  simp only at hl q ⊢
  obtain ⟨xs,k,-,-,-,y7,hf⟩:=DataW.trod_struct Tryz.underlying74 q
  match xs,y7,cs,hl with
  |[y0,y1],_,[v0,v1],_ =>
   have g0:=hf 0 _ rfl
   have g1:=hf 1 _ rfl
   simp[C7,ql] at g0 g1
   obtain ⟨n0,e0,-,-⟩:=DataW.trod_string Tryz.underlying9 g0
   obtain ⟨n1,e1,-,-⟩:=DataW.trod_int Tryz.underlying3 g1
   simp at e0 e1
   subst e0 e1
   exact ⟨(n0,n1),rfl,trivial⟩)
 have h4:=mO h2
 rw[e1,e2] at h1
 exact ⟨l,h1,by omega⟩
theorem H4 {fuel:Nat}{v:Value}{x:DataW H×List MemPlace} (h:DataW.trod enc Tryz.prog w base spare held fuel 43 [v]=some x) (hw:Rows.uptoBulk x.1≤1048576) :
  ∃l:List Fd,Rl w v l.length (fB l)∧l.length≤Rows.uptoBulk x.1∧∀d ∈ l,d.ty.size≤1048576:=by
 obtain ⟨L,h1,h2,h3⟩:=kS (k:=6) Tryz.underlying43 (by kernel_rfl) (by omega) h hw
 obtain ⟨l,e1,e2,e3⟩:=kV Fd.cs (fun d=>d.ty.size≤1048576) L (fun p hp=>by
  obtain ⟨m,y,-,hl,q,hy⟩:=h3 p hp
  have hb:=sX (List.mem_map.2 ⟨p,hp,rfl⟩:p.2 ∈ L.map (·.2))
  rw[←hy] at hb
  obtain ⟨cs,dd⟩:=p
  simp only at hl q ⊢
  obtain ⟨xs,k,-,NS,-,y7,hf⟩:=DataW.trod_struct Tryz.underlying42 q
  match xs,y7,cs,hl with
  |[y0,y1,y2,y3,y4,y5],_,[v0,v1,v2,v3,v4,v5],_ =>
   have g0:=hf 0 _ rfl
   have g1:=hf 1 _ rfl
   have g2:=hf 2 _ rfl
   have g3:=hf 3 _ rfl
   have g4:=hf 4 _ rfl
   have g5:=hf 5 _ rfl
   simp[C7,ql] at g0 g1 g2 g3 g4 g5
   obtain ⟨n0,e0,-,-⟩:=DataW.trod_int Tryz.underlying3 g0
   obtain ⟨n1,e1,-,-⟩:=DataW.trod_string Tryz.underlying9 g1
   obtain ⟨n2,e2,f2,-⟩:=DataW.trod_string Tryz.underlying9 g2
   obtain ⟨n3,e3,-,-⟩:=DataW.trod_string Tryz.underlying9 g3
   obtain ⟨n4,e4,-,-⟩:=DataW.trod_int Tryz.underlying3 g4
   obtain ⟨n5,e5,-,-⟩:=DataW.trod_int Tryz.underlying3 g5
   simp at e0 e1 e2 e3 e4 e5
   subst e0 e1 e2 e3 e4 e5
   refine ⟨⟨n0,n1,n2,n3,n4,n5⟩,rfl,?_⟩
   show n2.size≤_
   rw[NS,f2] at hb
   simp only[List.map_cons,List.map_nil,Rows.uptoBulk,Rows.uptoBulkAll] at hb
   have:n2.data.toList.length=n2.size:=rfl
   omega)
 have h4:=mO h2
 rw[e1,e2] at h1
 exact ⟨l,h1,by omega,e3⟩
def YJ (w:World) (cs:List Value) (n:Nat) (e:En):Prop:=∃vv vr vg,cs=[.string e.name,vv,vr,vg]∧Rl w vv e.aR.length (rn e.aR)∧Rl w vr e.res.length (lj e.res)∧Rl w vg e.gone.length (cc e.gone)∧Kd e∧kF e≤n
theorem DN:∀(L:List (List Value×DataW H)),(∀p ∈ L,∃e,YJ w p.1 (Rows.uptoBulk p.2) e)→∃l:List En,vO w (L.map (·.1)).flatten l∧L.length=l.length∧(∀e ∈ l,Kd e)∧bE kF l≤Rows.uptoBulkAll (L.map (·.2))
 |[],_=>⟨[],.nil,rfl,fun a h=>by simp at h,Nat.zero_le _⟩
 |c::L,h=>by
  obtain ⟨e,vv,vr,vg,ee,a1,a2,a3,a4,a5⟩:=h c (List.mem_cons_self ..)
  obtain ⟨l,h1,h2,h3,h4⟩:=DN L (fun cs rk=>h cs (zF _ rk))
  refine ⟨e::l,by rw[List.map_cons,List.flatten_cons,ee];exact .cons a1 a2 a3 h1,by rw[List.length_cons,List.length_cons,h2],fun x hx=>?_,by simp only[bE,List.map_cons,Rows.uptoBulkAll];omega⟩
  rcases List.mem_cons.1 hx with rfl|hx
  ·exact a4
  ·exact h3 x hx
theorem At {fuel:Nat}{v:Value}{x:DataW H×List MemPlace} (h:DataW.trod enc Tryz.prog w base spare held fuel 24 [v]=some x) (hw:Rows.uptoBulk x.1≤1048576) :
  ∃(l:List En) (cs:List Value),Rl w v l.length cs∧vO w cs l∧l.length≤1048576∧(∀e ∈ l,Kd e)∧bE kF l≤Rows.uptoBulk x.1:=by
 obtain ⟨L,h1,h2,h3⟩:=kS (k:=4) Tryz.underlying24 (by kernel_rfl) (by omega) h hw
 obtain ⟨l,e1,e2,e3,e4⟩:=DN (w:=w) L (fun p hp=>by
  obtain ⟨m,y,-,hl,q,hy⟩:=h3 p hp
  have hb:=sX (List.mem_map.2 ⟨p,hp,rfl⟩:p.2 ∈ L.map (·.2))
  rw[←hy] at hb ⊢
  obtain ⟨cs,dd⟩:=p
  simp only at hl q ⊢
  obtain ⟨xs,k,-,NS,-,y7,hf⟩:=DataW.trod_struct Tryz.underlying67 q
  match xs,y7,cs,hl with
  |[y0,y1,y2,y3],_,[v0,v1,v2,v3],_ =>
   have g0:=hf 0 _ rfl
   have g1:=hf 1 _ rfl
   have g2:=hf 2 _ rfl
   have g3:=hf 3 _ rfl
   simp[ql,yM,Jj,ON] at g0 g1 g2 g3
   rw[NS] at hb ⊢
   simp only[List.map_cons,List.map_nil,Rows.uptoBulk,Rows.uptoBulkAll] at hb ⊢
   obtain ⟨n0,e0,-,-⟩:=DataW.trod_string Tryz.underlying9 g0
   obtain ⟨l1,a1,b1⟩:=G9 g1 (by omega)
   obtain ⟨l2,a2,b2⟩:=As g2 (by omega)
   obtain ⟨l3,a3,b3⟩:=mR g3 (by omega)
   simp at e0
   subst e0
   exact ⟨⟨n0,l1,l2,l3⟩,v1,v2,v3,rfl,a1,a2,a3,⟨by show l1.length*24≤_;omega,by show l2.length*16≤_;omega,by show l3.length*16≤_;omega⟩,by show 1+l1.length+l2.length+l3.length≤_;omega⟩)
 have h4:=mO h2
 rw[e2] at h1 h4
 exact ⟨l,_,h1,e1,by omega,e3,by omega⟩
def XC (w:World) (cs:List Value) (n:Nat) (m:Ms):Prop:=∃vf vo vm ve vr vg nm fs os ms es rs gs cm ce,cs=[.string nm,vf,vo,vm,ve,vr,vg]∧L0 w m vf vo vm ve vr vg nm fs os ms es rs gs cm ce∧∀f,El f m∧tG f m∧cR f m≤n
theorem DM:∀(L:List (List Value×DataW H)),(∀p ∈ L,∃m,XC w p.1 (Rows.uptoBulk p.2) m)→∃l:List Ms,tH w (L.map (·.1)).flatten l∧L.length=l.length∧∀f,(∀m ∈ l,El f m∧tG f m)∧bE (cR f) l≤Rows.uptoBulkAll (L.map (·.2))
 |[],_=>⟨[],.nil,rfl,fun f=>⟨fun a h=>by simp at h,Nat.zero_le _⟩⟩
 |c::L,h=>by
  obtain ⟨m,vf,vo,vm,ve,vr,vg,nm,fs,os,ms,es,rs,gs,cm,ce,ee,hV,ha⟩:=h c (List.mem_cons_self ..)
  obtain ⟨l,h1,h2,h3⟩:=DM L (fun cs rk=>h cs (zF _ rk))
  obtain rfl:=hV.is
  refine ⟨_::l,by rw[List.map_cons,List.flatten_cons,ee];exact .cons hV.hf hV.ho hV.hm hV.eo hV.he hV.fA hV.hr hV.hg h1,by rw[List.length_cons,List.length_cons,h2],fun f=>⟨fun x hx=>?_,?_⟩⟩
  ·rcases List.mem_cons.1 hx with rfl|hx
   ·exact ⟨(ha f).1,(ha f).2.1⟩
   ·exact (h3 f).1 x hx
  ·have:=(h3 f).2
   have:=(ha f).2.2
   simp only[bE,List.map_cons,Rows.uptoBulkAll]
   omega
theorem Np {nm:ByteArray}{fs:List Fd}{os:List ByteArray}{ms:List Ms}{es:List En}{rs:List (Int×Int)}{gs:List ByteArray}{n:Nat} (h:Qt fs os ms es rs gs) (hf:∀d ∈ fs,d.ty.size≤281474976710656) (hm:∀f,(∀m ∈ ms,El f m∧tG f m)∧bE (cR f) ms≤n) {q:Nat} (hq:1+fs.length+os.length+rs.length+gs.length+bE kF es+n≤q):∀f,El f (.mk nm fs os ms es rs gs)∧tG f (.mk nm fs os ms es rs gs)∧cR f (.mk nm fs os ms es rs gs)≤q
 |0=>⟨h,trivial,Nat.zero_le _⟩
 |f+1=>⟨⟨h,fun m y'=>((hm f).1 m y').1⟩,⟨hf,fun m y'=>((hm f).1 m y').2⟩,by have:=(hm f).2;simp only[cR];omega⟩
theorem Hk:∀(fuel:Nat) (v:Value) (x:DataW H×List MemPlace),DataW.trod enc Tryz.prog w base spare held fuel 23 [v]=some x→Rows.uptoBulk x.1≤1048576 →
  ∃(l:List Ms) (cs:List Value),Rl w v l.length cs∧tH w cs l∧l.length≤1048576∧∀f,(∀m ∈ l,El f m∧tG f m)∧bE (cR f) l≤Rows.uptoBulk x.1:=by
 intro fuel
 induction fuel using Nat.strongRecOn with
 |ind fuel ih =>
  intro v x h hw
  obtain ⟨L,h1,h2,h3⟩:=kS (k:=7) Tryz.underlying23 (by kernel_rfl) (by omega) h hw
  obtain ⟨l,e1,e2,e3⟩:=DM (w:=w) L (fun p hp=>by
   obtain ⟨m,y,hmf,hl,q,hy⟩:=h3 p hp
   have hb:=sX (List.mem_map.2 ⟨p,hp,rfl⟩:p.2 ∈ L.map (·.2))
   rw[←hy] at hb ⊢
   obtain ⟨cs,dd⟩:=p
   simp only at hl q ⊢
   obtain ⟨xs,k,hk,NS,-,y7,hf⟩:=DataW.trod_struct Tryz.underlying46 q
   match xs,y7,cs,hl with
   |[y0,y1,y2,y3,y4,y5,y6],_,[v0,v1,v2,v3,v4,v5,v6],_ =>
    have g0:=hf 0 _ rfl
    have g1:=hf 1 _ rfl
    have g2:=hf 2 _ rfl
    have g3:=hf 3 _ rfl
    have g4:=hf 4 _ rfl
    have g5:=hf 5 _ rfl
    have g6:=hf 6 _ rfl
    simp[ql,yM,Jj,OO,Jk,Jl] at g0 g1 g2 g3 g4 g5 g6
    rw[NS] at hb ⊢
    simp only[List.map_cons,List.map_nil,Rows.uptoBulk,Rows.uptoBulkAll] at hb ⊢
    obtain ⟨n0,e0,-,-⟩:=DataW.trod_string Tryz.underlying9 g0
    obtain ⟨l1,a1,b1,c1⟩:=H4 g1 (by omega)
    obtain ⟨l2,a2,b2⟩:=mR g2 (by omega)
    obtain ⟨l3,cm,a3,d3,b3,c3⟩:=ih k (by omega) v3 y3 g3 (by omega)
    obtain ⟨l4,ce,a4,d4,b4,c4,c5⟩:=At g4 (by omega)
    obtain ⟨l5,a5,b5⟩:=As g5 (by omega)
    obtain ⟨l6,a6,b6⟩:=mR g6 (by omega)
    simp at e0
    subst e0
    exact ⟨.mk n0 l1 l2 l3 l4 l5 l6,v1,v2,v3,v4,v5,v6,n0,l1,l2,l3,l4,l5,l6,cm,ce,rfl,⟨rfl,a1,a2,a3,d3,a4,d4,a5,a6⟩,Np ⟨by omega,by omega,by omega,by omega,c4,by omega,by omega⟩ (fun d hd=>by have:=c1 d hd;omega) c3 (by omega)⟩)
  have h4:=mO h2
  rw[e2] at h1 h4
  exact ⟨l,_,h1,e1,by omega,fun f=>⟨(e3 f).1,by have:=(e3 f).2;omega⟩⟩
theorem wT {fuel:Nat}{cs:List Value}{x:DataW H×List MemPlace} (h:DataW.trod enc Tryz.prog w base spare held fuel 26 cs=some x) (hw:Rows.uptoBulk x.1≤1048576) :
  ∃(F:Fl) (vi vm ve:Value) (cm ce:List Value),cs=[.string F.jr,vi,vm,ve]∧xE w (.agg #[.string F.jr,vi,vm,ve]) F vi vm ve cm ce∧JC F∧(∀m ∈ F.ms,tG 32 m)∧kG F≤1048576:=by
 obtain ⟨xs,k,-,NS,hl,y7,hf⟩:=DataW.trod_struct Tryz.underlying26 h
 rw[show Tryz.prog.cellsOf 26=4 by kernel_rfl] at hl
 match xs,y7,cs,hl with
 |[y0,y1,y2,y3],_,[v0,v1,v2,v3],_ =>
  have g0:=hf 0 _ rfl
  have g1:=hf 1 _ rfl
  have g2:=hf 2 _ rfl
  have g3:=hf 3 _ rfl
  simp[ql,yM,Jk,Jl] at g0 g1 g2 g3
  rw[NS] at hw
  simp only[List.map_cons,List.map_nil,Rows.uptoBulk,Rows.uptoBulkAll] at hw
  obtain ⟨n0,e0,-,-⟩:=DataW.trod_string Tryz.underlying9 g0
  obtain ⟨l1,a1,b1⟩:=mR g1 (by omega)
  obtain ⟨l2,cm,a2,d2,b2,c2⟩:=Hk k v2 y2 g2 (by omega)
  obtain ⟨l3,ce,a3,d3,b3,c3,b4⟩:=At g3 (by omega)
  simp at e0
  subst e0
  exact ⟨⟨n0,l1,l2,l3⟩,v1,v2,v3,cm,ce,rfl,⟨rfl,a1,a2,d2,a3,d3⟩,⟨by show l1.length*16≤_;omega,by show l2.length*160≤_;omega,fun m hm=>((c2 200).1 m hm).1,by show l3.length*88≤_;omega,c3⟩,fun m hm=>((c2 32).1 m hm).2,by have:=(c2 32).2;show l1.length+bE (cR 32) l2+bE kF l3≤_;omega⟩
end
end Go.Proofs.YtichhjfjcinjgaaGreatDoor
namespace Go.Proofs.YtichhjfjcinjgaaGreatDoor
open Go.RowKit
theorem DY {W:World}{laid:List (String×DataW Unit)} (h:laidMet Tryz.prog laid W) (hm:("internal/strconv.uint64pow10",Rows.laid_internal_strconv_uint64pow10) ∈ laid):il W:=by
 have h1:Lib.VarReads Tryz.prog W "internal/strconv.uint64pow10" (Lib.tabData .u64 Lib.pow10Tab):=Lib.laidMet.reads h hm
 obtain ⟨g',t',cs,fuel,p,kY,og,Ik,hd⟩:=h1
 have hg:Tryz.prog.globalNamed "internal/strconv.uint64pow10" = some 4:=by kernel_rfl
 have Wd:(Tryz.prog.globals[4]?).map (·.type)=some 228:=by kernel_rfl
 obtain rfl:=zC (hg.symm.trans kY)
 obtain rfl:=zC (Wd.symm.trans og)
 unfold il Lib.TabIs
 rw[Ik,←Lib.cells_of_tab Tryz.underlying228 Tryz.underlying189 (by kernel_rfl) (by kernel_rfl) hd]
theorem DL {W:World} (h:W.ShapedOpen Tryz.prog):gX W:=by
 obtain ⟨m,hm⟩:=cell_of_shapedOpen_int (P:=Tryz.prog) (g:=1) (t:=3) (zero:=#[.int .i64 0]) h (of_decide_eq_true (by kernel_rfl)) (by kernel_rfl) rfl (by kernel_rfl) (by kernel_rfl) Tryz.underlying3
 exact ⟨World.block_lt_of_cell? W _ hm,m,hm⟩
end Go.Proofs.YtichhjfjcinjgaaGreatDoor
namespace Go.Proofs.YtichhjfjcinjgaaGreatDoor
open Go.ChangeShapes Go.WideShapes Go.ChangeAt Go.RowKit
theorem AK {H:Type}{enc:TypeId×Value→H}{P:Program}{w:World}{base:Nat}{sp:Nat→Bool}{held:Bool}{fuel:Nat}{t:TypeId}{ms:_}{cs:List Value}{nm:String}{d:DataW H}{p:List MemPlace}
  (ht:P.underlying t=some (.interface ms)) (h:DataW.trod enc P w base sp held fuel t cs=some (.iface nm d,p)):∃u v,cs=[.iface u v]:=by
 cases fuel with
 |zero=>simp[DataW.trod] at h
 |succ fuel =>
  simp only[DataW.trod,ht] at h
  split at h
  all_goals first
   |exact ⟨_,_,rfl⟩
   |(simp at h;done)
   |(simp_all;done)
   |(rename_i heq _;cases heq;done)
   |(rename_i heq;cases heq;done)
theorem DX {W:World}{name nm:String}{d:DataW Unit}{g:Nat} (hg:Tryz.prog.globalNamed name=some g) (Wd:(Tryz.prog.globals[g]?).map (·.type)=some 127) (h:Lib.VarReads Tryz.prog W name (.iface nm d)):FW W g:=by
 obtain ⟨g',t',cs,fuel,p,kY,og,Ik,hd⟩:=h
 obtain rfl:=zC (hg.symm.trans kY)
 obtain rfl:=zC (Wd.symm.trans og)
 have hc:=World.var?_cell hg Ik
 obtain ⟨u,v,rk⟩:=AK Tryz.underlying127 hd
 have h1:W.cell? ⟨g,0,none⟩=some (.iface u v):=by
  rw[hc]
  have:cs.toList[0]?=some (.iface u v):=by rw[rk];rfl
  simpa using this
 exact ⟨World.block_lt_of_cell? W _ h1,_,h1,.inr ⟨u,v,rfl⟩⟩
theorem D0 {W:World}{laid:List (String×DataW Unit)} (h:laidMet Tryz.prog laid W) (hm:("strconv.ErrSyntax",Rows.laid_strconv_ErrSyntax) ∈ laid) (P3:("strconv.ErrRange",Rows.laid_strconv_ErrRange) ∈ laid):jM W :=
 ⟨DX (by kernel_rfl) (by kernel_rfl) (Lib.laidMet.reads h hm),DX (by kernel_rfl) (by kernel_rfl) (Lib.laidMet.reads h P3)⟩
theorem I1:Tryz.prog.globalNamed "sigil/wire.forms" = some 0:=by kernel_rfl
theorem CR:(Tryz.prog.globals[0]?).map (·.type)=some 168:=by kernel_rfl
theorem C6:Tryz.prog.cellsOf 168=45:=by kernel_rfl
theorem xB:Tryz.prog.cellsOf 167=5:=by kernel_rfl
theorem cellsByte:Tryz.prog.cellsOf 5=1:=by kernel_rfl
theorem CW {H:Type}{enc:TypeId×Value→H}{w:World}{base:Nat}{sp:Nat→Bool}{held:Bool}{fuel:Nat}{cs:List Value}{a b c d e:Int}{p:List MemPlace}
  (h:DataW.trod enc Tryz.prog w base sp held fuel 167 cs=some (.agg [.lit (.int .u8 a),.lit (.int .u8 b),.lit (.int .u8 c),.lit (.int .u8 d),.lit (.int .u8 e)],p)) :
  cs=[.int .u8 a,.int .u8 b,.int .u8 c,.int .u8 d,.int .u8 e]:=by
 obtain ⟨xs,k,_,hx,hlen,y7,hf⟩:=DataW.trod_struct Tryz.underlying167 h
 rw[xB] at hlen
 match xs,y7,cs,hlen with
 |[y0,y1,y2,y3,y4],_,[v0,v1,v2,v3,v4],_ =>
  have g0:=hf 0 _ rfl
  have g1:=hf 1 _ rfl
  have g2:=hf 2 _ rfl
  have g3:=hf 3 _ rfl
  have g4:=hf 4 _ rfl
  simp[cellsByte] at g0 g1 g2 g3 g4
  obtain ⟨n0,e0,f0,_⟩:=DataW.trod_int Tryz.underlying5 g0
  obtain ⟨n1,e1,f1,_⟩:=DataW.trod_int Tryz.underlying5 g1
  obtain ⟨n2,e2,f2,_⟩:=DataW.trod_int Tryz.underlying5 g2
  obtain ⟨n3,e3,f3,_⟩:=DataW.trod_int Tryz.underlying5 g3
  obtain ⟨n4,e4,f4,_⟩:=DataW.trod_int Tryz.underlying5 g4
  simp at e0 e1 e2 e3 e4
  subst e0 e1 e2 e3 e4 f0 f1 f2 f3 f4
  simp at hx
  obtain ⟨⟨q0,q1,q2,q3,q4⟩,_⟩:=hx
  subst q0 q1 q2 q3 q4
  rfl
theorem zV {H:Type}{enc:TypeId×Value→H}{w:World}{base:Nat}{sp:Nat→Bool}{held:Bool}{fuel:Nat}{cs:List Value}{p:List MemPlace}
  (h:DataW.trod enc Tryz.prog w base sp held fuel 168 cs=some (Rows.laid_sigil_wire_forms,p)) :
  ∀(i:Nat) (a b c d e:Int),j8[i]?=some (a,b,c,d,e)→(cs.drop (i*5)).take 5=[.int .u8 a,.int .u8 b,.int .u8 c,.int .u8 d,.int .u8 e]:=by
 intro i a b c d e hf
 cases fuel with
 |zero=>simp[DataW.trod] at h
 |succ fuel =>
  simp only[DataW.trod,Tryz.underlying168,xB,C6] at h
  split at h
  ·obtain ⟨xs,hm,hx⟩:=Option.map_eq_some_iff.1 h
   have hi:i<9:=by
    have:=(zB hf).1
    rw[mT] at this
    exact this
   obtain ⟨y,hy,Ob⟩:=Lib.mapM_at hm i i (by simp[hi])
   have VT:xs.map (·.1)=j8.map fun z=>(DataW.agg [.lit (.int .u8 z.1),.lit (.int .u8 z.2.1),.lit (.int .u8 z.2.2.1),.lit (.int .u8 z.2.2.2.1),.lit (.int .u8 z.2.2.2.2)]:DataW H):=by
    have:=congrArg Prod.fst hx
    simpa[Rows.laid_sigil_wire_forms,j8] using this
   have h2:(xs.map (·.1))[i]?=some y.1:=by simp[hy]
   rw[VT,List.getElem?_map,hf] at h2
   simp at h2
   obtain ⟨y1,y2⟩:=y
   simp only at h2
   subst h2
   exact CW Ob
  ·cases h
theorem DZ {W:World}{laid:List (String×DataW Unit)} (h:laidMet Tryz.prog laid W) (hm:("sigil/wire.forms",Rows.laid_sigil_wire_forms) ∈ laid):ir W:=by
 obtain ⟨g',t',cs,fuel,p,kY,og,Ik,hd⟩:=Lib.laidMet.reads h hm
 obtain rfl:=zC (I1.symm.trans kY)
 obtain rfl:=zC (CR.symm.trans og)
 have hc:=World.var?_cell I1 Ik
 have ht:=zV hd
 have pF:∀(i j:Nat) (l:List Value) (v:Value),(cs.toList.drop (i*5)).take 5=l→j<5→l[j]?=some v→W.cell? ⟨0,i*5+j,none⟩=some v:=by
  intro i j l v hl hj hv
  rw[hc]
  subst hl
  rw[List.getElem?_take,if_pos hj,List.getElem?_drop] at hv
  simpa using hv
 refine ⟨?_,fun i a b c d e hf=>?_⟩
 ·have:=pF 0 0 _ (.int .u8 0) (ht 0 0 127 0 0 0 rfl) (by decide) rfl
  exact World.block_lt_of_cell? W _ this
 ·have hl:=ht i a b c d e hf
  have h0:=pF i 0 _ _ hl (by decide) rfl
  have h1:=pF i 1 _ _ hl (by decide) rfl
  have h2:=pF i 2 _ _ hl (by decide) rfl
  have h3:=pF i 3 _ _ hl (by decide) rfl
  have h4:=pF i 4 _ _ hl (by decide) rfl
  exact ⟨h0,h1,h2,h3,h4⟩
end Go.Proofs.YtichhjfjcinjgaaGreatDoor

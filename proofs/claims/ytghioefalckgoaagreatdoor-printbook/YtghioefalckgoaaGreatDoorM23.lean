import Derived.Test.YtghioefalckgoaaGreatDoorM22
set_option maxHeartbeats 2000000
set_option maxRecDepth 100000
namespace Go.Proofs.YtghioefalckgoaaGreatDoor
open Go.RowKit
attribute [local go_sem ↓] Go.wp_at_zero Go.wp_at_succ
theorem A2:(Tryz.prog.info? 54).map (fun i=>(i.zero,i.size,i.bytes))=some (some (.slice none 0 0),1,24):=by kernel_rfl
theorem KJ (w:World) (d:Fd):Calls Tryz.prog 228 #[.agg d.cs.toArray] w fun e w'=>∃g,w.heap.size≤g∧e=.returned (.slice (some ⟨g,0,none⟩) 1 1)∧w'.heap[g]?=some (.cells d.cs.toArray 53 (0,0))∧Below w.heap.size w w':=by
 obtain ⟨aZ,key,ty,nm,num,aH⟩:=d
 unfold Fd.cs
 simp only
 obtain ⟨⟨c0,c1,c2,c3,c4,c5⟩,-,hb⟩:=jH w aZ num aH key ty nm
 obtain ⟨V,hV⟩:∃V,w.alloc (.cells #[.int .i64 aZ,.string key,.string ty,.string nm,.int .i64 num,.int .i64 aH] 53)=V:=⟨_,rfl⟩
 rw[hV] at c0 c1 c2 c3 c4 c5 hb
 have hs:V.heap.size=w.heap.size+1:=by rw[←hV,zJ]
 have HB:=ak hb
 have HN:=ak (aE V (.cells #[.int .i64 aZ,.string key,.string ty,.string nm,.int .i64 num,.int .i64 aH] 53))
 have HS:=ak hs
 clear hb hs
 go_enter Tryz.func228,Tryz.ntmps228
 go_wp2
 go_ret
 refine ⟨V.heap.size,by rw[ab HS];omega,rfl,ab HN,(ab HB).alloc (ab HB).size _⟩
def oL (g:Nat):Value:=.slice (some ⟨g,0,none⟩) 1 1
structure Al (lo:Nat) (w:World) (v:Value) (l:List Fd) (gs:List Nat):Prop where
 row:w.ownsRow lo 54 1 v l.length (gs.map oL)
 len:gs.length=l.length
 cH:∀(i:Nat) (d:Fd) (g:Nat),l[i]?=some d→gs[i]?=some g→w.heap[g]?=some (.cells d.cs.toArray 53 (0,0))
 nd:gs.Nodup
 low:∀g ∈ gs,lo≤g
theorem Al.up {lo:Nat}{w w':World}{v:Value}{l:List Fd}{gs:List Nat} (h:Al lo w v l gs) (hb:Below w.heap.size w w'):Al lo w' v l gs :=
 ⟨cM h.row hb,h.len,fun i d g h1 h2=>(hb.block _ (zA (h.cH i d g h1 h2)).1).trans (h.cH i d g h1 h2),h.nd,h.low⟩
theorem Al.lt {lo:Nat}{w:World}{v:Value}{l:List Fd}{gs:List Nat} (h:Al lo w v l gs) {g:Nat} (hg:g ∈ gs):g<w.heap.size:=by
 obtain ⟨i,hi,rfl⟩:=List.getElem_of_mem hg
 exact (zA (h.cH i _ _ (List.getElem?_eq_getElem (by rw[←h.len];exact hi)) (List.getElem?_eq_getElem hi))).1
theorem Al.app {lo:Nat}{w w':World}{v v':Value}{l:List Fd}{gs:List Nat}{d:Fd}{g:Nat} (h:Al lo w v l gs) (hg:w.heap[g]?=some (.cells d.cs.toArray 53 (0,0))) (cK:lo≤g) (hn:g ∉ gs) (ho:w'.ownsRow lo 54 1 v' (l.length+1) (gs.map oL++[oL g])) (jB:w.grownBy w' v.ownBlock):Al lo w' v' (l++[d]) (gs++[g]):=by
 have key:∀(k:Nat) (cs:Array Value),w.heap[k]?=some (.cells cs 53 (0,0))→w'.heap[k]?=some (.cells cs 53 (0,0)):=by
  intro k cs hk
  refine (jB.block k (zA hk).1 (fun e=>?_)).trans hk
  rcases h.row.2 with ⟨rfl,_⟩|⟨q,cap,cur,rfl,_,h4,_⟩
  ·cases e
  ·obtain rfl:k=q:=by simpa[Value.ownBlock] using e
   rw[h4] at hk
   simp at hk
 refine ⟨?_,?_,?_,?_,?_⟩
 ·rw[zK,List.map_append];exact ho
 ·rw[zK,zK,h.len];rfl
 ·intro i d' g' h1 h2
  rcases Nat.lt_or_ge i l.length with q|q
  ·rw[List.getElem?_append_left q] at h1
   rw[List.getElem?_append_left (by rw[h.len];exact q)] at h2
   exact key _ _ (h.cH i d' g' h1 h2)
  ·rw[List.getElem?_append_right q] at h1
   rw[List.getElem?_append_right (by rw[h.len];exact q),h.len] at h2
   obtain ⟨q2,e2⟩:=zB h1
   have q3:i-l.length=0:=by simp at q2;omega
   rw[q3] at h1 h2
   obtain rfl:d=d':=by simpa using h1
   obtain rfl:g=g':=by simpa using h2
   exact key _ _ hg
 ·exact List.nodup_append.2 ⟨h.nd,by simp,fun a ha b hb=>by simp at hb;subst hb;exact fun e=>hn (e ▸ ha)⟩
 ·intro x hx
  rcases List.mem_append.1 hx with q|q
  ·exact h.low x q
  ·simp at q;subst q;exact cK
theorem dB {α:Type}{l:List α}{i:Nat}{x:α} (h:l[i]?=some x):l.take (i+1)=l.take i++[x]:=by
 obtain ⟨hi,rfl⟩:=zB h
 exact List.take_succ_eq_append_getElem hi
theorem FW {W:World}{v:Value}{l:List Fd} (hv:Rl W v l.length (cC l)) (hl:l.length≤4096) (w0:World) (hw:Below W.heap.size W w0) :
  Calls Tryz.prog 227 #[v,.func (.func 228) #[] #[]] w0 fun e w=>∃u gs,e=.returned u∧Al w0.heap.size w u l gs∧Below w0.heap.size w0 w:=by
 obtain ⟨a,c,rfl,hn,h2⟩:=hv
 obtain ⟨i0,hi,fX,gp,fJ⟩:=info_parts A2
 have H2:=ak h2
 have HW:=ak hw
 clear h2 hw
 go_enter Tryz.func227,Tryz.ntmps227
 go_wp2
 go_loopg [5,7,10] l.length (fun gk v5 _ v10 wr=>∃(i:Nat) (gs:List Nat),v10=.int .i64 (i:Int)∧gk=l.length-i∧i≤l.length∧Hid (Al w0.heap.size wr v5 (l.take i) gs)∧Hid (Below w0.heap.size w0 wr))
 case atStart=>exact ⟨0,[],rfl,rfl,by omega,⟨⟨rfl,.inl ⟨rfl,rfl⟩⟩,rfl,fun i d g h=>by simp at h,List.nodup_nil,fun g h=>by simp at h⟩,zE _ _⟩
 case round =>
  obtain ⟨i,gs,rfl,bd,fY,HO,HB⟩:=hrel
  have bH:=ak bd
  clear bd
  by_cases aU:i<l.length
  ·obtain ⟨g,o,rfl,hg,hc⟩:=ab H2 (by omega)
   have hr:=List.getElem?_eq_getElem aU
   obtain ⟨r,oW⟩:∃r,l[i]=r:=⟨_,rfl⟩
   rw[oW] at hr
   have dh:=ak (show Below W.heap.size W wr from (ab HW).trans ((ab HB).mono (ab HW).size))
   have oZ:∀j,j<6→wr.cell? ⟨g,o+(i*6+j),none⟩=r.cs[j]?:=by
    intro j hj
    have e:=da hr hj
    obtain ⟨x,hx⟩:∃x,r.cs[j]?=some x:=⟨_,List.getElem?_eq_getElem (by unfold Fd.cs;exact hj)⟩
    rw[hx] at e ⊢
    exact ((ab dh).cell (p:=⟨g,o+(i*6+j),none⟩) hg).trans (hc _ _ e)
   have W6:=ak (dB hr)
   have HC:=ak (fun w'=>KJ w' r)
   obtain ⟨aZ,key,ty,nm,num,aH⟩:=r
   unfold Fd.cs at oZ
   have x0:=oZ 0 (by decide)
   have x1:=oZ 1 (by decide)
   have x2:=oZ 2 (by decide)
   have x3:=oZ 3 (by decide)
   have x4:=oZ 4 (by decide)
   have x5:=oZ 5 (by decide)
   rw[Nat.add_zero] at x0
   rw[←Nat.add_assoc] at x1 x2 x3 x4 x5
   simp only[List.getElem?_cons_zero,List.getElem?_cons_succ] at x0 x1 x2 x3 x4 x5
   obtain ⟨-,cy,bq⟩:=jH wr aZ num aH key ty nm
   obtain ⟨X,hX⟩:∃X,wr.alloc (.cells #[.int .i64 aZ,.string key,.string ty,.string nm,.int .i64 num,.int .i64 aH] 53)=X:=⟨_,rfl⟩
   rw[hX] at cy bq
   obtain ⟨b0,b1,b2,b3,b4,b5⟩:=Eg cy
   have YK:=ak ((ab HB).trans (bq.mono (ab HB).size))
   have HOX:=ak ((ab HO).up bq)
   have WR:=ak (fun g' (h:g' ∈ gs)=>Nat.lt_of_lt_of_le ((ab HO).lt h) bq.size)
   have HCX:=ak (ab HC X)
   have Fo:(0:Int)≤(i:Int):=zH _
   have i1:(i:Int)<(l.length:Int):=by omega
   have bn:=ak aU
   have Hl:=ak hl
   have Htl:=ak (show (l.take i).length=i by rw[List.length_take];omega)
   unfold Fd.cs at HCX
   clear hc hr oW bq HO HB dh aU oZ cy HC
   go_wp2_with fail
   refine (ab HCX).mono ?_
   rintro e w1 ⟨gn,Np,rfl,bA,aY⟩
   have iC:=ak ((ab HOX).up aY)
   have ei:=ak ((ab YK).trans (aY.mono (ab YK).size))
   have eZ:=ak (ab ei).size
   have Gq:=ak bA
   have Hgn:=ak Np
   have HnX:=ak (show gn ∉ gs from fun h=>by have:=ab WR gn h;omega)
   have aaW:=ak (Nat.le_trans (ab YK).size Np)
   have l8:=(ab iC).row
   rw[ab Htl] at l8
   have Dm:=ak l8
   clear aY bA Np HCX HOX YK WR l8
   go_wp2_with (at_builtin;refine wpList_append_own_at _ rfl _ _ 86 rfl w0.heap.size 54 i0 (.slice none 0 0) 1 24 Tryz.underlying86 hi fX gp fJ rfl (by decide) _ _ _ rfl ((ab Dm).alloc _) ⟨w1.heap.size,0,none⟩ 1 1 [.slice (some ⟨gn,0,none⟩) 1 1] rfl rfl (cell_one_new _ _ _) (by simp[Value.oneCell']) (by have:=ab bn;have:=ab Hl;unfold maxLen;omega) (by have:=ab bn;have:=ab Hl;omega) (by rw[zJ];have:=ab eZ;omega) ?_;intro v' w2 ho cE _ _;have hgB:=(World.grownBy_alloc w1 _ _).trans cE;have SU:=ak ((ab iC).app (d:=⟨aZ,key,ty,nm,num,aH⟩) (ab Gq) (ab aaW) (ab HnX) (by rw[ab Htl];exact ho) hgB);have dF:=ak ((ab ei).grown hgB (ab eZ) (fun k e=>((ab iC).row.lt k e).1));clear ho cE hgB)
   rw[←ab W6] at SU
   go_roundg (l.length-(i+1))
   case measure=>have:=ab bH;have:=ab bn;omega
   case rel=>exact ⟨i+1,gs++[gn],by go_num,rfl,ab bn,SU,dF⟩
  ·obtain rfl:i=l.length:=by omega
   have hO:=ab HO
   rw[List.take_length] at hO
   have jj:=ak hO
   clear hO
   go_wp2
   go_ret
   exact ⟨_,gs,rfl,ab jj,ab HB⟩
theorem MT:(Tryz.prog.info? 53).map (fun i=>(i.zero,i.size,i.bytes))=some (some (.agg #[.int .i64 0,.string ⟨#[]⟩,.string ⟨#[]⟩,.string ⟨#[]⟩,.int .i64 0,.int .i64 0]),6,72):=by kernel_rfl
theorem FL (G:List Fd) (d:Fd):cC (G++[d])=cC G++d.cs:=by unfold cC;rw[List.flatMap_append];simp
theorem ux {w:World}{ops:Array Oper}{rest:List Oper}{o:Oper}{a:Act}{Q:Exit→Act→World→Prop} (wg:o.guard=none) (s x:Operand) (ho:o.op=.call { callee:=.builtin .append,args:=#[s,x],argTypes:=#[54,54] })
  (lo:Nat) (v:Value) (n:Nat) (xs:List Value) (hs:a.eval s=v) (cU:w.ownsRow lo 53 6 v n xs) (g:Nat) (d:Fd) (hx:a.eval x=.slice (some ⟨g,0,none⟩) 1 1) (hg:∀j y,d.cs[j]?=some y→w.cell? ⟨g,j,none⟩=some y) (hn:n≤4096) (cK:lo≤w.heap.size)
  (h:∀v' w',w'.ownsRow lo 53 6 v' (n+1) (xs++d.cs)→w.grownBy w' v.ownBlock→(v'.ownBlock=v.ownBlock∨v'.ownBlock=some w.heap.size)→wpList Tryz.prog ops Q rest (a.put o.dst v') w'):wpList Tryz.prog ops Q (o::rest) a w:=by
 obtain ⟨i0,hi,fX,gp,fJ⟩:=info_parts MT
 refine wpList_append_own_at _ wg s x 54 ho lo 53 i0 _ 6 72 Tryz.underlying54 hi fX gp fJ rfl (by decide) v n xs hs cU ⟨g,0,none⟩ 1 1 d.cs hx rfl (fun j y hy=>by have e:=hg j y hy;by_cases hj:j=0<;>simpa[Addr.add,hj] using e) ?_ (by unfold maxLen;omega) (by omega) cK (fun v' w' h1 h2 _ h3=>h v' w' h1 h2 h3)
 intro y hy
 simp[Fd.cs] at hy
 rcases hy with rfl|rfl|rfl|rfl|rfl|rfl<;>rfl
def JoQ (lo:Nat) (w:World) (u:Value) (G:List Fd) (d:Fd) (q:Bool) (e:Ending) (w':World):Prop:=if q then ∃u',e=.returned (.tuple #[u',.bool true])∧w'.ownsRow lo 53 6 u' (G.length+1) (cC (G++[d]))∧w.grownBy w' u.ownBlock∧(u'.ownBlock=u.ownBlock∨u'.ownBlock=some w.heap.size) else e=.returned (.tuple #[.slice none 0 0,.bool false])∧Below w.heap.size w w'
def AW (a b:Fd):Bool:=!(a.aH==0)&&(a.aH==b.aH)
theorem KI {w:World}{lo g:Nat}{u:Value}{G:List Fd}{d1 d:Fd} (hu:w.ownsRow lo 53 6 u G.length (cC G)) (h0:G[0]?=some d1) (hG:G.length≤4096) (hg:w.heap[g]?=some (.cells d.cs.toArray 53 (0,0))) (cK:lo≤w.heap.size) :
  Calls Tryz.prog 230 #[u,.slice (some ⟨g,0,none⟩) 1 1] w (JoQ lo w u G d (AW d1 d)):=by
 have QZ:0<G.length:=(zB h0).1
 have HU:=ak hu
 obtain ⟨h1,⟨rfl,h2⟩|⟨h,c,cur,rfl,hB,hh,h3,h4,h5,h6⟩⟩:=hu
 ·omega
 have a5:w.cell? ⟨h,5,none⟩=some (.int .i64 d1.aH):=by
  rw[cell_of_row _ _ _ _ _ _ hh,←Array.getElem?_toList]
  have e1:=da h0 (j:=5) (by decide)
  rw[←h6,List.getElem?_take,if_pos (by omega)] at e1
  simpa[Fd.cs] using e1
 have gc:∀j x,d.cs[j]?=some x→w.cell? ⟨g,j,none⟩=some x:=by
  intro j x hx
  rw[cell_of_row _ _ _ _ _ _ hg]
  simpa using hx
 have b5:=gc 5 _ rfl
 have Yz:=ak gc
 have i1:(0:Int)<(G.length:Int):=by omega
 have HG:=ak hG
 have SG:=ak cK
 unfold AW JoQ
 clear h1 hB hh h3 h4 h5 h6 gc hg h0 cK
 cases q0:(d1.aH==0) with
 |true =>
  go_enter Tryz.func230,Tryz.ntmps230
  go_wp2_with fail
  go_quiet (fail)
  go_wp2
  go_ret2
  exact ⟨rfl,below_drewN (zE _ _) _⟩
 |false =>
  cases q1:(d1.aH==d.aH) with
  |false =>
   have q2:(d1.aH != d.aH)=true:=by simpa[bne] using q1
   go_enter Tryz.func230,Tryz.ntmps230
   go_wp2_with fail
   go_quiet (fail)
   go_wp2
   go_ret2
   exact ⟨rfl,below_drewN (zE _ _) _⟩
  |true =>
   have q2:(d1.aH != d.aH)=false:=by simpa[bne] using q1
   go_enter Tryz.func230,Tryz.ntmps230
   go_wp2_with fail
   go_quiet (fail)
   have HU2:=ak (cM (ab HU) (below_drewN (zE w.heap.size w) nq))
   have aaY:Hid (∀j x,d.cs[j]?=some x→(w.drewN nq).cell? ⟨g,j,none⟩=some x):=fun j x hx=>ab Yz j x hx
   clear a5 b5 q0 q1 q2
   go_wp2_with (at_builtin;refine ux rfl _ _ rfl lo _ _ _ rfl (ab HU2) g d rfl (ab aaY) (ab HG) (ab SG) ?_;intro v' w2 ho cE mQ;have jj:=ak ho;have wG:=ak cE;have SU:=ak mQ;obtain ⟨a',l',c',rfl⟩:∃a l c,v'=.slice a l c:=(by rcases ho.2 with ⟨rfl,_⟩|⟨_,_,_,rfl,_⟩<;>exact ⟨_,_,_,rfl⟩);clear ho cE mQ)
   go_ret2
   have hg:=ab wG
   exact ⟨_,rfl,by rw[FL];exact ab jj,⟨hg.os,hg.tape,hg.output,hg.size,hg.block⟩,ab SU⟩
structure Jn (lo uV:Nat) (w0 w:World) (va v:Value) (l:List Fd) (gA:List Nat) (i:Nat) (gs:List (List Fd)) (us:List Value):Prop where
 bh:Below lo w0 w
 GA:uV≤w.heap.size
 low:lo≤uV
 Ww:w.ownsRow lo 54 1 va l.length (gA.map oL)
 WD:∀k,va.ownBlock=some k→k<uV
 Sv:gA.length=l.length
 KL:∀g ∈ gA,lo≤g∧g<uV
 and:gA.Nodup
 cH:∀(j:Nat) (d:Fd) (g:Nat),i≤j→l[j]?=some d→gA[j]?=some g→w.heap[g]?=some (.cells d.cs.toArray 53 (0,0))
 row:w.ownsRow uV 54 1 v gs.length us
 len:us.length=gs.length
 GS:∀(k:Nat) (G:List Fd) (u:Value),gs[k]?=some G→us[k]?=some u→w.ownsRow lo 53 6 u G.length (cC G)
 ne:∀G ∈ gs,0<G.length
 ap:∀(k k':Nat) (u u':Value) (b:Nat),k≠k'→us[k]?=some u→us[k']?=some u'→u.ownBlock=some b→u'.ownBlock≠some b
 Sl:∀(k j:Nat) (u:Value) (b g:Nat),i≤j→us[k]?=some u→u.ownBlock=some b→gA[j]?=some g→b≠g
theorem o6 {lo n:Nat}{w:World}{u:Value}{xs:List Value}{t b:Nat} (h:w.ownsRow lo t 6 u n xs) (hb:u.ownBlock=some b):∃cs,w.heap[b]?=some (.cells cs t (0,0)):=by
 rcases h.2 with ⟨rfl,_⟩|⟨q,cap,cur,rfl,_,h4,_⟩
 ·cases hb
 ·obtain rfl:q=b:=by simpa[Value.ownBlock] using hb
  exact ⟨_,h4⟩
theorem mz {lo n:Nat}{w:World}{u:Value}{xs:List Value}{t b:Nat} (h:w.ownsRow lo t 1 u n xs) (hb:u.ownBlock=some b):∃cs,w.heap[b]?=some (.cells cs t (0,0)):=by
 rcases h.2 with ⟨rfl,_⟩|⟨q,cap,cur,rfl,_,h4,_⟩
 ·cases hb
 ·obtain rfl:q=b:=by simpa[Value.ownBlock] using hb
  exact ⟨_,h4⟩
theorem MC {lo g:Nat}{w:World}{d:Fd} (hg:w.heap[g]?=some (.cells d.cs.toArray 53 (0,0))) (cK:lo≤g):w.ownsRow lo 53 6 (oL g) [d].length (cC [d]):=by
 refine ⟨rfl,.inr ⟨g,1,d.cs.toArray,rfl,cK,hg,zD _,by unfold maxLen;omega,rfl,?_⟩⟩
 unfold cC
 simp[Fd.cs]
theorem Jn.app {lo uV:Nat}{w0 w w':World}{va v v':Value}{l:List Fd}{gA:List Nat}{i:Nat}{gs:List (List Fd)}{us:List Value}{d:Fd}{g:Nat} (h:Jn lo uV w0 w va v l gA i gs us) (hd:l[i]?=some d) (hg:gA[i]?=some g) (ho:w'.ownsRow uV 54 1 v' (gs.length+1) (us++[oL g])) (jB:w.grownBy w' v.ownBlock):Jn lo uV w0 w' va v' l gA (i+1) (gs++[([d])]) (us++[oL g]):=by
 have hvl:∀k,v.ownBlock=some k→uV≤k:=fun k e=>(h.row.lt k e).1
 have ku:∀(b:Nat) (cs:Array Value),w.heap[b]?=some (.cells cs 53 (0,0))→w'.heap[b]?=some (.cells cs 53 (0,0)):=by
  intro b cs hb
  refine (jB.block b (zA hb).1 (fun e=>?_)).trans hb
  obtain ⟨cs2,h2⟩:=mz h.row e.symm
  rw[h2] at hb
  simp at hb
 have Tq:g ∈ gA:=List.mem_of_getElem? hg
 have CT:=h.cH i d g (zD _) hd hg
 have OX:∀(k:Nat) (u:Value),(us++[oL g])[k]?=some u→(us[k]?=some u∧k<us.length)∨(k=us.length∧u=oL g):=by
  intro k u hk
  rcases Nat.lt_or_ge k us.length with q|q
  ·rw[List.getElem?_append_left q] at hk;exact .inl ⟨hk,q⟩
  ·rw[List.getElem?_append_right q] at hk
   obtain ⟨q2,_⟩:=zB hk
   have q3:k-us.length=0:=by simp at q2;omega
   rw[q3] at hk
   exact .inr ⟨by omega,by simpa using hk.symm⟩
 refine ⟨h.bh.grown jB (Nat.le_trans h.low h.GA) (fun k e=>Nat.le_trans h.low (hvl k e)),Nat.le_trans h.GA jB.size,h.low,h.Ww.kept jB ?_,h.WD,h.Sv,h.KL,h.and,fun j d' g' hj h1 h2=>ku _ _ (h.cH j d' g' (by omega) h1 h2),?_,?_,?_,?_,?_,?_⟩
 ·cases e:va.ownBlock with
  |none=>exact .inl rfl
  |some k=>exact .inr (fun q=>by have:=hvl k q.symm;have:=h.WD k e;omega)
 ·rw[zK];exact ho
 ·rw[zK,zK,h.len];rfl
 ·intro k G u h1 h2
  rcases OX k u h2 with ⟨q1,q2⟩|⟨rfl,rfl⟩
  ·rw[List.getElem?_append_left (by rw[←h.len];exact q2)] at h1
   have hG:=h.GS k G u h1 q1
   refine hG.kept jB ?_
   cases e:u.ownBlock with
   |none=>exact .inl rfl
   |some b =>
    refine .inr (fun q=>?_)
    obtain ⟨c1,e1⟩:=o6 hG e
    obtain ⟨c2,e2⟩:=mz h.row q.symm
    rw[e1] at e2
    simp at e2
  ·rw[h.len,List.getElem?_append_right (zD _),Nat.sub_self] at h1
   obtain rfl:[d]=G:=by simpa using h1
   exact MC (ku _ _ CT) (h.KL g Tq).1
 ·intro G hG
  rcases List.mem_append.1 hG with q|q
  ·exact h.ne G q
  ·simp at q;subst q;exact Nat.one_pos
 ·intro k k' u u' b hk h1 h2 h3
  rcases OX k u h1 with ⟨q1,q2⟩|⟨rfl,rfl⟩
  ·rcases OX k' u' h2 with ⟨r1,r2⟩|⟨rfl,rfl⟩
   ·exact h.ap k k' u u' b hk q1 r1 h3
   ·intro e
    obtain rfl:g=b:=by simpa[oL,Value.ownBlock] using e
    exact h.Sl k i u g g (zD _) q1 h3 hg rfl
  ·rcases OX k' u' h2 with ⟨r1,r2⟩|⟨rfl,rfl⟩
   ·obtain rfl:g=b:=by simpa[oL,Value.ownBlock] using h3
    intro e
    exact h.Sl k' i u' g g (zD _) r1 e hg rfl
   ·exact absurd rfl hk
 ·intro k j u b g' hj h1 h2 h3
  rcases OX k u h1 with ⟨q1,q2⟩|⟨rfl,rfl⟩
  ·exact h.Sl k j u b g' (by omega) q1 h2 h3
  ·obtain rfl:g=b:=by simpa[oL,Value.ownBlock] using h2
   intro e
   subst e
   obtain ⟨a1,a2⟩:=zB hg
   obtain ⟨b1,b2⟩:=zB h3
   exact (List.pairwise_iff_getElem.1 h.and) i j a1 b1 (by omega) (a2.trans b2.symm)
theorem Jn.join {lo uV q c:Nat}{w0 w w1:World}{va:Value}{l:List Fd}{gA:List Nat}{i m:Nat}{gs:List (List Fd)}{us:List Value}{G:List Fd}{u u':Value}{d:Fd} (h:Jn lo uV w0 w va (.slice (some ⟨q,0,none⟩) gs.length c) l gA i gs us) (hm:m+1=gs.length) (hG:gs[m]?=some G) (hu:us[m]?=some u)
  (ho:w1.ownsRow lo 53 6 u' (G.length+1) (cC (G++[d]))) (jB:w.grownBy w1 u.ownBlock) (mQ:u'.ownBlock=u.ownBlock∨u'.ownBlock=some w.heap.size) :
  Jn lo uV w0 (w1.setCell ⟨q,m,none⟩ u') va (.slice (some ⟨q,0,none⟩) gs.length c) l gA (i+1) (gs.set m (G++[d])) (us.set m u'):=by
 have VT:=h.GS m G u hG hu
 have hul:∀k,u.ownBlock=some k→lo≤k:=fun k e=>(VT.lt k e).1
 have ne1:∀(t b:Nat) (cs:Array Value),w.heap[b]?=some (.cells cs t (0,0))→t≠53→w1.heap[b]?=some (.cells cs t (0,0)):=by
  intro t b cs hb ht
  refine (jB.block b (zA hb).1 (fun e=>?_)).trans hb
  obtain ⟨c2,e2⟩:=o6 VT e.symm
  rw[e2] at hb
  simp at hb
  exact ht hb.2.symm
 have OR:∀{B n:Nat} {x:Value} {xs:List Value},w.ownsRow B 54 1 x n xs→w1.ownsRow B 54 1 x n xs:=by
  intro B n x xs hx
  refine hx.kept jB ?_
  cases e:x.ownBlock with
  |none=>exact .inl rfl
  |some b =>
   refine .inr (fun z=>?_)
   obtain ⟨c1,e1⟩:=mz hx e
   obtain ⟨c2,e2⟩:=o6 VT z.symm
   rw[e1] at e2
   simp at e2
 have l8:=OR h.row
 obtain ⟨s1,s2⟩:=l8.stored m u'
 have hql:uV≤q:=(h.row.lt q rfl).1
 have bU:∀(b:Nat) (cs:Array Value),w1.heap[b]?=some (.cells cs 53 (0,0))→(w1.setCell ⟨q,m,none⟩ u').heap[b]?=some (.cells cs 53 (0,0)):=by
  intro b cs hb
  refine (s2.block b (zA hb).1 (fun e=>?_)).trans hb
  obtain ⟨c2,e2⟩:=mz l8 e.symm
  rw[e2] at hb
  simp at hb
 have kp2:∀{B n:Nat} {x:Value} {xs:List Value},w1.ownsRow B 53 6 x n xs→(w1.setCell ⟨q,m,none⟩ u').ownsRow B 53 6 x n xs:=by
  intro B n x xs hx
  refine hx.kept s2 ?_
  cases e:x.ownBlock with
  |none=>exact .inl rfl
  |some b =>
   refine .inr (fun z=>?_)
   obtain ⟨c1,e1⟩:=o6 hx e
   obtain ⟨c2,e2⟩:=mz l8 z.symm
   rw[e1] at e2
   simp at e2
 have nL:∀(k:Nat) (x:Value),(us.set m u')[k]?=some x→(k=m∧x=u')∨(k≠m∧us[k]?=some x):=by
  intro k x hk
  rw[List.getElem?_set] at hk
  split at hk
  ·rename_i e
   split at hk
   ·exact .inl ⟨e.symm,(zC hk).symm⟩
   ·cases hk
  ·rename_i e
   exact .inr ⟨fun z=>e z.symm,hk⟩
 have fresh:∀b,u'.ownBlock=some b→u.ownBlock=some b∨b=w.heap.size:=by
  intro b e
  rcases mQ with z|z
  ·exact .inl (z ▸ e)
  ·exact .inr (by rw[z] at e;exact (zC e).symm)
 have Pr:∀(k:Nat) (x:Value) (b:Nat),us[k]?=some x→x.ownBlock=some b→b<w.heap.size:=by
  intro k x b hx hb
  obtain ⟨hk,_⟩:=zB hx
  have bd:=List.getElem?_eq_getElem (l:=gs) (show k<gs.length by rw[←h.len];exact hk)
  exact ((h.GS k _ x bd hx).lt b hb).2
 refine ⟨(h.bh.grown jB (Nat.le_trans h.low h.GA) (fun k e=>hul k e)).grown s2 (Nat.le_trans (Nat.le_trans h.low h.GA) jB.size) (fun k e=>by obtain rfl:=zC e;exact Nat.le_trans h.low hql),Nat.le_trans (Nat.le_trans h.GA jB.size) s2.size,h.low,(OR h.Ww).kept s2 ?_,h.WD,h.Sv,h.KL,h.and,?_,?_,?_,?_,?_,?_,?_⟩
 ·cases e:va.ownBlock with
  |none=>exact .inl rfl
  |some k=>exact .inr (fun z=>by have:=h.WD k e;have:=zC z;omega)
 ·intro j d' g' hj h1 h2
  have hb:=h.cH j d' g' (by omega) h1 h2
  refine bU _ _ ((jB.block g' (zA hb).1 (fun e=>?_)).trans hb)
  exact h.Sl m j u g' g' (by omega) hu e.symm h2 rfl
 ·rw[List.length_set];exact s1
 ·rw[List.length_set,List.length_set];exact h.len
 ·intro k G' x h1 h2
  rcases nL k x h2 with ⟨rfl,rfl⟩|⟨z1,z2⟩
  ·rw[List.getElem?_set_self (by omega)] at h1
   obtain rfl:=zC h1
   rw[zK]
   exact kp2 ho
  ·rw[List.getElem?_set_ne (fun z=>z1 z.symm)] at h1
   have hx:=h.GS k G' x h1 z2
   refine kp2 (hx.kept jB ?_)
   cases e:x.ownBlock with
   |none=>exact .inl rfl
   |some b=>exact .inr (fun z=>h.ap k m x u b z1 z2 hu e z.symm)
 ·intro G' hG'
  rcases List.mem_or_eq_of_mem_set hG' with z|rfl
  ·exact h.ne G' z
  ·rw[zK];simp
 ·intro k k' x x' b hk h1 h2 h3
  rcases nL k x h1 with ⟨rfl,rfl⟩|⟨z1,z2⟩
  ·rcases nL k' x' h2 with ⟨rfl,rfl⟩|⟨y1,y2⟩
   ·exact absurd rfl hk
   ·rcases fresh b h3 with e|rfl
    ·exact h.ap k k' u x' b hk hu y2 e
    ·intro e;have:=Pr k' x' _ y2 e;omega
  ·rcases nL k' x' h2 with ⟨rfl,rfl⟩|⟨y1,y2⟩
   ·intro e
    rcases fresh b e with e2|rfl
    ·exact h.ap k k' x u b hk z2 hu h3 e2
    ·have:=Pr k x _ z2 h3;omega
   ·exact h.ap k k' x x' b hk z2 y2 h3
 ·intro k j x b g' hj h1 h2 h3
  rcases nL k x h1 with ⟨rfl,rfl⟩|⟨z1,z2⟩
  ·rcases fresh b h2 with e|rfl
   ·exact h.Sl k j u b g' (by omega) hu e h3
   ·have:=(h.KL g' (List.mem_of_getElem? h3)).2
    have:=h.GA
    omega
  ·exact h.Sl k j x b g' (by omega) z2 h2 h3
theorem Jn.up {lo uV:Nat}{w0 w w':World}{va v:Value}{l:List Fd}{gA:List Nat}{i:Nat}{gs:List (List Fd)}{us:List Value} (h:Jn lo uV w0 w va v l gA i gs us) (hb:Below w.heap.size w w'):Jn lo uV w0 w' va v l gA i gs us :=
 ⟨h.bh.trans (hb.mono (Nat.le_trans h.low h.GA)),Nat.le_trans h.GA hb.size,h.low,cM h.Ww hb,h.WD,h.Sv,h.KL,h.and,fun j d g hj h1 h2=>(hb.block _ (zA (h.cH j d g hj h1 h2)).1).trans (h.cH j d g hj h1 h2),cM h.row hb,h.len,fun k G u h1 h2=>cM (h.GS k G u h1 h2) hb,h.ne,h.ap,h.Sl⟩
theorem Jn.MP {lo uV m:Nat}{w0 w w1:World}{va v:Value}{l:List Fd}{gA:List Nat}{i:Nat}{gs:List (List Fd)}{us:List Value}{G:List Fd}{u:Value} (h:Jn lo uV w0 w va v l gA i gs us) (hG:gs[m]?=some G) (hu:us[m]?=some u) (jB:w.grownBy w1 u.ownBlock):w1.ownsRow uV 54 1 v gs.length us:=by
 have VT:=h.GS m G u hG hu
 refine h.row.kept jB ?_
 cases e:v.ownBlock with
 |none=>exact .inl rfl
 |some b =>
  refine .inr (fun z=>?_)
  obtain ⟨c1,e1⟩:=mz h.row e
  obtain ⟨c2,e2⟩:=o6 VT z.symm
  rw[e1] at e2
  simp at e2
end Go.Proofs.YtghioefalckgoaaGreatDoor

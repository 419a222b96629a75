import Derived.Test.YtichhjfjcinjgaaGreatDoorM14
set_option maxHeartbeats 2000000
set_option maxRecDepth 100000
namespace Go.Proofs.YtichhjfjcinjgaaGreatDoor
open Go.RowKit
attribute [local go_sem ↓] Go.wp_at_zero Go.wp_at_succ
theorem AH:(Tryz.prog.info? 43).map (fun i=>(i.zero,i.size,i.bytes))=some (some (.slice none 0 0),1,24):=by kernel_rfl
theorem Jq (w:World) (d:Fd):Calls Tryz.prog 175 #[.agg d.cs.toArray] w fun e w'=>∃g,w.heap.size≤g∧e=.returned (.slice (some ⟨g,0,none⟩) 1 1)∧w'.heap[g]?=some (.cells d.cs.toArray 42 (0,0))∧Below w.heap.size w w':=by
 obtain ⟨aQ,key,ty,nm,num,aE⟩:=d
 unfold Fd.cs
 simp only
 obtain ⟨⟨c0,c1,c2,c3,c4,c5⟩,-,hb⟩:=j9 w aQ num aE key ty nm
 obtain ⟨V,hV⟩:∃V,w.alloc (.cells #[.int .i64 aQ,.string key,.string ty,.string nm,.int .i64 num,.int .i64 aE] 42)=V:=⟨_,rfl⟩
 rw[hV] at c0 c1 c2 c3 c4 c5 hb
 have hs:V.heap.size=w.heap.size+1:=by rw[←hV,zJ]
 have HB:=al hb
 have HN:=al (aJ V (.cells #[.int .i64 aQ,.string key,.string ty,.string nm,.int .i64 num,.int .i64 aE] 42))
 have HS:=al hs
 clear hb hs
 go_enter Tryz.func175,Tryz.ntmps175
 go_wp2
 go_ret
 refine ⟨V.heap.size,by rw[ab HS];omega,rfl,ab HN,(ab HB).alloc (ab HB).size _⟩
def oN (g:Nat):Value:=.slice (some ⟨g,0,none⟩) 1 1
structure Al (lo:Nat) (w:World) (v:Value) (l:List Fd) (gs:List Nat):Prop where
 row:w.ownsRow lo 43 1 v l.length (gs.map oN)
 len:gs.length=l.length
 dt:∀(i:Nat) (d:Fd) (g:Nat),l[i]?=some d→gs[i]?=some g→w.heap[g]?=some (.cells d.cs.toArray 42 (0,0))
 nd:gs.Nodup
 low:∀g ∈ gs,lo≤g
theorem Al.up {lo:Nat}{w w':World}{v:Value}{l:List Fd}{gs:List Nat} (h:Al lo w v l gs) (hb:Below w.heap.size w w'):Al lo w' v l gs :=
 ⟨dL h.row hb,h.len,fun i d g h1 h2=>(hb.block _ (zA (h.dt i d g h1 h2)).1).trans (h.dt i d g h1 h2),h.nd,h.low⟩
theorem Al.lt {lo:Nat}{w:World}{v:Value}{l:List Fd}{gs:List Nat} (h:Al lo w v l gs) {g:Nat} (hg:g ∈ gs):g<w.heap.size:=by
 obtain ⟨i,hi,rfl⟩:=List.getElem_of_mem hg
 exact (zA (h.dt i _ _ (List.getElem?_eq_getElem (by rw[←h.len];exact hi)) (List.getElem?_eq_getElem hi))).1
theorem Al.app {lo:Nat}{w w':World}{v v':Value}{l:List Fd}{gs:List Nat}{d:Fd}{g:Nat} (h:Al lo w v l gs) (hg:w.heap[g]?=some (.cells d.cs.toArray 42 (0,0))) (dF:lo≤g) (hn:g ∉ gs) (ho:w'.ownsRow lo 43 1 v' (l.length+1) (gs.map oN++[oN g])) (nL:w.grownBy w' v.ownBlock):Al lo w' v' (l++[d]) (gs++[g]):=by
 have key:∀(k:Nat) (cs:Array Value),w.heap[k]?=some (.cells cs 42 (0,0))→w'.heap[k]?=some (.cells cs 42 (0,0)):=by
  intro k cs hk
  refine (nL.block k (zA hk).1 (fun e=>?_)).trans hk
  rcases h.row.2 with ⟨rfl,_⟩|⟨q,cap,cur,rfl,_,h4,_⟩
  ·cases e
  ·obtain rfl:k=q:=by simpa[Value.ownBlock] using e
   rw[h4] at hk
   simp at hk
 refine ⟨?_,?_,?_,?_,?_⟩
 ·rw[zK,List.map_append];exact ho
 ·rw[zK,zK,h.len];rfl
 ·intro i d' g' h1 h2
  rcases Nat.lt_or_ge i l.length with q|q
  ·rw[List.getElem?_append_left q] at h1
   rw[List.getElem?_append_left (by rw[h.len];exact q)] at h2
   exact key _ _ (h.dt i d' g' h1 h2)
  ·rw[List.getElem?_append_right q] at h1
   rw[List.getElem?_append_right (by rw[h.len];exact q),h.len] at h2
   obtain ⟨q2,e2⟩:=zB h1
   have q3:i-l.length=0:=by simp at q2;omega
   rw[q3] at h1 h2
   obtain rfl:d=d':=by simpa using h1
   obtain rfl:g=g':=by simpa using h2
   exact key _ _ hg
 ·exact List.nodup_append.2 ⟨h.nd,by simp,fun a ha b hb=>by simp at hb;subst hb;exact fun e=>hn (e ▸ ha)⟩
 ·intro x hx
  rcases List.mem_append.1 hx with q|q
  ·exact h.low x q
  ·simp at q;subst q;exact dF
theorem bM {α:Type}{l:List α}{i:Nat}{x:α} (h:l[i]?=some x):l.take (i+1)=l.take i++[x]:=by
 obtain ⟨hi,rfl⟩:=zB h
 exact List.take_succ_eq_append_getElem hi
theorem FC {W:World}{v:Value}{l:List Fd} (hv:Rl W v l.length (fB l)) (hl:l.length≤4096) (w0:World) (hw:Below W.heap.size W w0) :
  Calls Tryz.prog 174 #[v,.func (.func 175) #[] #[]] w0 fun e w=>∃u gs,e=.returned u∧Al w0.heap.size w u l gs∧Below w0.heap.size w0 w:=by
 obtain ⟨a,c,rfl,hn,h2⟩:=hv
 obtain ⟨i0,hi,fU,dS,da⟩:=info_parts AH
 have H2:=al h2
 have HW:=al hw
 clear h2 hw
 go_enter Tryz.func174,Tryz.ntmps174
 go_wp2
 go_loopg [5,7,10] l.length (fun gk v5 _ v10 wr=>∃(i:Nat) (gs:List Nat),v10=.int .i64 (i:Int)∧gk=l.length-i∧i≤l.length∧Hid (Al w0.heap.size wr v5 (l.take i) gs)∧Hid (Below w0.heap.size w0 wr))
 case atStart=>exact ⟨0,[],rfl,rfl,by omega,⟨⟨rfl,.inl ⟨rfl,rfl⟩⟩,rfl,fun i d g h=>by simp at h,List.nodup_nil,fun g h=>by simp at h⟩,zE _ _⟩
 case round =>
  obtain ⟨i,gs,rfl,aW,eV,HO,HB⟩:=hrel
  have bz:=al aW
  clear aW
  by_cases aM:i<l.length
  ·obtain ⟨g,o,rfl,hg,hc⟩:=ab H2 (by omega)
   have hr:=List.getElem?_eq_getElem aM
   obtain ⟨r,uO⟩:∃r,l[i]=r:=⟨_,rfl⟩
   rw[uO] at hr
   have gV:=al (show Below W.heap.size W wr from (ab HW).trans ((ab HB).mono (ab HW).size))
   have qT:∀j,j<6→wr.cell? ⟨g,o+(i*6+j),none⟩=r.cs[j]?:=by
    intro j hj
    have e:=cC hr hj
    obtain ⟨x,hx⟩:∃x,r.cs[j]?=some x:=⟨_,List.getElem?_eq_getElem (by unfold Fd.cs;exact hj)⟩
    rw[hx] at e ⊢
    exact ((ab gV).cell (p:=⟨g,o+(i*6+j),none⟩) hg).trans (hc _ _ e)
   have tJ:=al (bM hr)
   have HC:=al (fun w'=>Jq w' r)
   obtain ⟨aQ,key,ty,nm,num,aE⟩:=r
   unfold Fd.cs at qT
   have x0:=qT 0 (by decide)
   have x1:=qT 1 (by decide)
   have x2:=qT 2 (by decide)
   have x3:=qT 3 (by decide)
   have x4:=qT 4 (by decide)
   have x5:=qT 5 (by decide)
   rw[Nat.add_zero] at x0
   rw[←Nat.add_assoc] at x1 x2 x3 x4 x5
   simp only[List.getElem?_cons_zero,List.getElem?_cons_succ] at x0 x1 x2 x3 x4 x5
   obtain ⟨-,fw,bG⟩:=j9 wr aQ num aE key ty nm
   obtain ⟨X,hX⟩:∃X,wr.alloc (.cells #[.int .i64 aQ,.string key,.string ty,.string nm,.int .i64 num,.int .i64 aE] 42)=X:=⟨_,rfl⟩
   rw[hX] at fw bG
   obtain ⟨b0,b1,b2,b3,b4,b5⟩:=D' fw
   have UC:=al ((ab HB).trans (bG.mono (ab HB).size))
   have HOX:=al ((ab HO).up bG)
   have S4:=al (fun g' (h:g' ∈ gs)=>Nat.lt_of_lt_of_le ((ab HO).lt h) bG.size)
   have YE:=al (ab HC X)
   have Mr:(0:Int)≤(i:Int):=zH _
   have i1:(i:Int)<(l.length:Int):=by omega
   have bu:=al aM
   have Hl:=al hl
   have Htl:=al (show (l.take i).length=i by rw[List.length_take];omega)
   unfold Fd.cs at YE
   clear hc hr uO bG HO HB gV aM qT fw HC
   go_wp2_with fail
   refine (ab YE).mono ?_
   rintro e w1 ⟨gn,P7,rfl,bR,aX⟩
   have jq:=al ((ab HOX).up aX)
   have cO:=al ((ab UC).trans (aX.mono (ab UC).size))
   have iQ:=al (ab cO).size
   have FV:=al bR
   have Hgn:=al P7
   have HnX:=al (show gn ∉ gs from fun h=>by have:=ab S4 gn h;omega)
   have XW:=al (Nat.le_trans (ab UC).size P7)
   have oU:=(ab jq).row
   rw[ab Htl] at oU
   have Dc:=al oU
   clear aX bR P7 YE HOX UC S4 oU
   go_wp2_with (at_builtin;refine wpList_append_own_at _ rfl _ _ 164 rfl w0.heap.size 43 i0 (.slice none 0 0) 1 24 Tryz.underlying164 hi fU dS da rfl (by decide) _ _ _ rfl ((ab Dc).alloc _) ⟨w1.heap.size,0,none⟩ 1 1 [.slice (some ⟨gn,0,none⟩) 1 1] rfl rfl (cell_one_new _ _ _) (by simp[Value.oneCell']) (by have:=ab bu;have:=ab Hl;unfold maxLen;omega) (by have:=ab bu;have:=ab Hl;omega) (by rw[zJ];have:=ab iQ;omega) ?_;intro v' w2 ho ep _ _;have WE:=(World.grownBy_alloc w1 _ _).trans ep;have QH:=al ((ab jq).app (d:=⟨aQ,key,ty,nm,num,aE⟩) (ab FV) (ab XW) (ab HnX) (by rw[ab Htl];exact ho) WE);have cS:=al ((ab cO).grown WE (ab iQ) (fun k e=>((ab jq).row.lt k e).1));clear ho ep WE)
   rw[←ab tJ] at QH
   go_roundg (l.length-(i+1))
   case measure=>have:=ab bz;have:=ab bu;omega
   case rel=>exact ⟨i+1,gs++[gn],by go_num,rfl,ab bu,QH,cS⟩
  ·obtain rfl:i=l.length:=by omega
   have hO:=ab HO
   rw[List.take_length] at hO
   have mb:=al hO
   clear hO
   go_wp2
   go_ret
   exact ⟨_,gs,rfl,ab mb,ab HB⟩
theorem K6:(Tryz.prog.info? 42).map (fun i=>(i.zero,i.size,i.bytes))=some (some (.agg #[.int .i64 0,.string ⟨#[]⟩,.string ⟨#[]⟩,.string ⟨#[]⟩,.int .i64 0,.int .i64 0]),6,72):=by kernel_rfl
theorem Fq (G:List Fd) (d:Fd):fB (G++[d])=fB G++d.cs:=by unfold fB;rw[List.flatMap_append];simp
theorem tN {w:World}{ops:Array Oper}{rest:List Oper}{o:Oper}{a:Act}{Q:Exit→Act→World→Prop} (Bz:o.guard=none) (s x:Operand) (ho:o.op=.call { callee:=.builtin .append,args:=#[s,x],argTypes:=#[43,43] })
  (lo:Nat) (v:Value) (n:Nat) (xs:List Value) (hs:a.eval s=v) (gJ:w.ownsRow lo 42 6 v n xs) (g:Nat) (d:Fd) (hx:a.eval x=.slice (some ⟨g,0,none⟩) 1 1) (hg:∀j y,d.cs[j]?=some y→w.cell? ⟨g,j,none⟩=some y) (hn:n≤4096) (dF:lo≤w.heap.size)
  (h:∀v' w',w'.ownsRow lo 42 6 v' (n+1) (xs++d.cs)→w.grownBy w' v.ownBlock→(v'.ownBlock=v.ownBlock∨v'.ownBlock=some w.heap.size)→wpList Tryz.prog ops Q rest (a.put o.dst v') w'):wpList Tryz.prog ops Q (o::rest) a w:=by
 obtain ⟨i0,hi,fU,dS,da⟩:=info_parts K6
 refine wpList_append_own_at _ Bz s x 43 ho lo 42 i0 _ 6 72 Tryz.underlying43 hi fU dS da rfl (by decide) v n xs hs gJ ⟨g,0,none⟩ 1 1 d.cs hx rfl (fun j y hy=>by have e:=hg j y hy;by_cases hj:j=0<;>simpa[Addr.add,hj] using e) ?_ (by unfold maxLen;omega) (by omega) dF (fun v' w' h1 h2 _ h3=>h v' w' h1 h2 h3)
 intro y hy
 simp[Fd.cs] at hy
 rcases hy with rfl|rfl|rfl|rfl|rfl|rfl<;>rfl
def XE (lo:Nat) (w:World) (u:Value) (G:List Fd) (d:Fd) (q:Bool) (e:Ending) (w':World):Prop:=if q then ∃u',e=.returned (.tuple #[u',.bool true])∧w'.ownsRow lo 42 6 u' (G.length+1) (fB (G++[d]))∧w.grownBy w' u.ownBlock∧(u'.ownBlock=u.ownBlock∨u'.ownBlock=some w.heap.size) else e=.returned (.tuple #[.slice none 0 0,.bool false])∧Below w.heap.size w w'
def uI (a b:Fd):Bool:=!(a.aE==0)&&(a.aE==b.aE)
theorem Jp {w:World}{lo g:Nat}{u:Value}{G:List Fd}{d1 d:Fd} (hu:w.ownsRow lo 42 6 u G.length (fB G)) (h0:G[0]?=some d1) (hG:G.length≤4096) (hg:w.heap[g]?=some (.cells d.cs.toArray 42 (0,0))) (dF:lo≤w.heap.size) :
  Calls Tryz.prog 177 #[u,.slice (some ⟨g,0,none⟩) 1 1] w (XE lo w u G d (uI d1 d)):=by
 have yp:0<G.length:=(zB h0).1
 have HU:=al hu
 obtain ⟨h1,⟨rfl,h2⟩|⟨h,c,cur,rfl,hB,hh,h3,h4,h5,h6⟩⟩:=hu
 ·omega
 have a5:w.cell? ⟨h,5,none⟩=some (.int .i64 d1.aE):=by
  rw[cell_of_row _ _ _ _ _ _ hh,←Array.getElem?_toList]
  have e1:=cC h0 (j:=5) (by decide)
  rw[←h6,List.getElem?_take,if_pos (by omega)] at e1
  simpa[Fd.cs] using e1
 have gc:∀j x,d.cs[j]?=some x→w.cell? ⟨g,j,none⟩=some x:=by
  intro j x hx
  rw[cell_of_row _ _ _ _ _ _ hg]
  simpa using hx
 have b5:=gc 5 _ rfl
 have Ul:=al gc
 have i1:(0:Int)<(G.length:Int):=by omega
 have HG:=al hG
 have Pb:=al dF
 unfold uI XE
 clear h1 hB hh h3 h4 h5 h6 gc hg h0 dF
 cases q0:(d1.aE==0) with
 |true =>
  go_enter Tryz.func177,Tryz.ntmps177
  go_wp2_with fail
  go_quiet (fail)
  go_wp2
  go_ret2
  exact ⟨rfl,below_drewN (zE _ _) _⟩
 |false =>
  cases q1:(d1.aE==d.aE) with
  |false =>
   have q2:(d1.aE != d.aE)=true:=by simpa[bne] using q1
   go_enter Tryz.func177,Tryz.ntmps177
   go_wp2_with fail
   go_quiet (fail)
   go_wp2
   go_ret2
   exact ⟨rfl,below_drewN (zE _ _) _⟩
  |true =>
   have q2:(d1.aE != d.aE)=false:=by simpa[bne] using q1
   go_enter Tryz.func177,Tryz.ntmps177
   go_wp2_with fail
   go_quiet (fail)
   have HU2:=al (dL (ab HU) (below_drewN (zE w.heap.size w) nq))
   have X4:Hid (∀j x,d.cs[j]?=some x→(w.drewN nq).cell? ⟨g,j,none⟩=some x):=fun j x hx=>ab Ul j x hx
   clear a5 b5 q0 q1 q2
   go_wp2_with (at_builtin;refine tN rfl _ _ rfl lo _ _ _ rfl (ab HU2) g d rfl (ab X4) (ab HG) (ab Pb) ?_;intro v' w2 ho ep pF;have mb:=al ho;have F4:=al ep;have QH:=al pF;obtain ⟨a',l',c',rfl⟩:∃a l c,v'=.slice a l c:=(by rcases ho.2 with ⟨rfl,_⟩|⟨_,_,_,rfl,_⟩<;>exact ⟨_,_,_,rfl⟩);clear ho ep pF)
   go_ret2
   have hg:=ab F4
   exact ⟨_,rfl,by rw[Fq];exact ab mb,⟨hg.os,hg.tape,hg.output,hg.size,hg.block⟩,ab QH⟩
structure Jn (lo wX:Nat) (w0 w:World) (va v:Value) (l:List Fd) (gA:List Nat) (i:Nat) (gs:List (List Fd)) (us:List Value):Prop where
 bU:Below lo w0 w
 F8:wX≤w.heap.size
 low:lo≤wX
 SS:w.ownsRow lo 43 1 va l.length (gA.map oN)
 SU:∀k,va.ownBlock=some k→k<wX
 O0:gA.length=l.length
 Jr:∀g ∈ gA,lo≤g∧g<wX
 and:gA.Nodup
 dt:∀(j:Nat) (d:Fd) (g:Nat),i≤j→l[j]?=some d→gA[j]?=some g→w.heap[g]?=some (.cells d.cs.toArray 42 (0,0))
 row:w.ownsRow wX 43 1 v gs.length us
 len:us.length=gs.length
 IZ:∀(k:Nat) (G:List Fd) (u:Value),gs[k]?=some G→us[k]?=some u→w.ownsRow lo 42 6 u G.length (fB G)
 ne:∀G ∈ gs,0<G.length
 ap:∀(k k':Nat) (u u':Value) (b:Nat),k≠k'→us[k]?=some u→us[k']?=some u'→u.ownBlock=some b→u'.ownBlock≠some b
 OS:∀(k j:Nat) (u:Value) (b g:Nat),i≤j→us[k]?=some u→u.ownBlock=some b→gA[j]?=some g→b≠g
theorem pc {lo n:Nat}{w:World}{u:Value}{xs:List Value}{t b:Nat} (h:w.ownsRow lo t 6 u n xs) (hb:u.ownBlock=some b):∃cs,w.heap[b]?=some (.cells cs t (0,0)):=by
 rcases h.2 with ⟨rfl,_⟩|⟨q,cap,cur,rfl,_,h4,_⟩
 ·cases hb
 ·obtain rfl:q=b:=by simpa[Value.ownBlock] using hb
  exact ⟨_,h4⟩
theorem mP {lo n:Nat}{w:World}{u:Value}{xs:List Value}{t b:Nat} (h:w.ownsRow lo t 1 u n xs) (hb:u.ownBlock=some b):∃cs,w.heap[b]?=some (.cells cs t (0,0)):=by
 rcases h.2 with ⟨rfl,_⟩|⟨q,cap,cur,rfl,_,h4,_⟩
 ·cases hb
 ·obtain rfl:q=b:=by simpa[Value.ownBlock] using hb
  exact ⟨_,h4⟩
theorem KS {lo g:Nat}{w:World}{d:Fd} (hg:w.heap[g]?=some (.cells d.cs.toArray 42 (0,0))) (dF:lo≤g):w.ownsRow lo 42 6 (oN g) [d].length (fB [d]):=by
 refine ⟨rfl,.inr ⟨g,1,d.cs.toArray,rfl,dF,hg,zD _,by unfold maxLen;omega,rfl,?_⟩⟩
 unfold fB
 simp[Fd.cs]
theorem Jn.app {lo wX:Nat}{w0 w w':World}{va v v':Value}{l:List Fd}{gA:List Nat}{i:Nat}{gs:List (List Fd)}{us:List Value}{d:Fd}{g:Nat} (h:Jn lo wX w0 w va v l gA i gs us) (hd:l[i]?=some d) (hg:gA[i]?=some g) (ho:w'.ownsRow wX 43 1 v' (gs.length+1) (us++[oN g])) (nL:w.grownBy w' v.ownBlock):Jn lo wX w0 w' va v' l gA (i+1) (gs++[([d])]) (us++[oN g]):=by
 have V7:∀k,v.ownBlock=some k→wX≤k:=fun k e=>(h.row.lt k e).1
 have Cp:∀(b:Nat) (cs:Array Value),w.heap[b]?=some (.cells cs 42 (0,0))→w'.heap[b]?=some (.cells cs 42 (0,0)):=by
  intro b cs hb
  refine (nL.block b (zA hb).1 (fun e=>?_)).trans hb
  obtain ⟨cs2,h2⟩:=mP h.row e.symm
  rw[h2] at hb
  simp at hb
 have P8:g ∈ gA:=List.mem_of_getElem? hg
 have CI:=h.dt i d g (zD _) hd hg
 have RA:∀(k:Nat) (u:Value),(us++[oN g])[k]?=some u→(us[k]?=some u∧k<us.length)∨(k=us.length∧u=oN g):=by
  intro k u hk
  rcases Nat.lt_or_ge k us.length with q|q
  ·rw[List.getElem?_append_left q] at hk;exact .inl ⟨hk,q⟩
  ·rw[List.getElem?_append_right q] at hk
   obtain ⟨q2,_⟩:=zB hk
   have q3:k-us.length=0:=by simp at q2;omega
   rw[q3] at hk
   exact .inr ⟨by omega,by simpa using hk.symm⟩
 refine ⟨h.bU.grown nL (Nat.le_trans h.low h.F8) (fun k e=>Nat.le_trans h.low (V7 k e)),Nat.le_trans h.F8 nL.size,h.low,h.SS.kept nL ?_,h.SU,h.O0,h.Jr,h.and,fun j d' g' hj h1 h2=>Cp _ _ (h.dt j d' g' (by omega) h1 h2),?_,?_,?_,?_,?_,?_⟩
 ·cases e:va.ownBlock with
  |none=>exact .inl rfl
  |some k=>exact .inr (fun q=>by have:=V7 k q.symm;have:=h.SU k e;omega)
 ·rw[zK];exact ho
 ·rw[zK,zK,h.len];rfl
 ·intro k G u h1 h2
  rcases RA k u h2 with ⟨q1,q2⟩|⟨rfl,rfl⟩
  ·rw[List.getElem?_append_left (by rw[←h.len];exact q2)] at h1
   have hG:=h.IZ k G u h1 q1
   refine hG.kept nL ?_
   cases e:u.ownBlock with
   |none=>exact .inl rfl
   |some b =>
    refine .inr (fun q=>?_)
    obtain ⟨c1,e1⟩:=pc hG e
    obtain ⟨c2,e2⟩:=mP h.row q.symm
    rw[e1] at e2
    simp at e2
  ·rw[h.len,List.getElem?_append_right (zD _),Nat.sub_self] at h1
   obtain rfl:[d]=G:=by simpa using h1
   exact KS (Cp _ _ CI) (h.Jr g P8).1
 ·intro G hG
  rcases List.mem_append.1 hG with q|q
  ·exact h.ne G q
  ·simp at q;subst q;exact Nat.one_pos
 ·intro k k' u u' b hk h1 h2 h3
  rcases RA k u h1 with ⟨q1,q2⟩|⟨rfl,rfl⟩
  ·rcases RA k' u' h2 with ⟨r1,r2⟩|⟨rfl,rfl⟩
   ·exact h.ap k k' u u' b hk q1 r1 h3
   ·intro e
    obtain rfl:g=b:=by simpa[oN,Value.ownBlock] using e
    exact h.OS k i u g g (zD _) q1 h3 hg rfl
  ·rcases RA k' u' h2 with ⟨r1,r2⟩|⟨rfl,rfl⟩
   ·obtain rfl:g=b:=by simpa[oN,Value.ownBlock] using h3
    intro e
    exact h.OS k' i u' g g (zD _) r1 e hg rfl
   ·exact absurd rfl hk
 ·intro k j u b g' hj h1 h2 h3
  rcases RA k u h1 with ⟨q1,q2⟩|⟨rfl,rfl⟩
  ·exact h.OS k j u b g' (by omega) q1 h2 h3
  ·obtain rfl:g=b:=by simpa[oN,Value.ownBlock] using h2
   intro e
   subst e
   obtain ⟨a1,a2⟩:=zB hg
   obtain ⟨b1,b2⟩:=zB h3
   exact (List.pairwise_iff_getElem.1 h.and) i j a1 b1 (by omega) (a2.trans b2.symm)
theorem Jn.join {lo wX q c:Nat}{w0 w w1:World}{va:Value}{l:List Fd}{gA:List Nat}{i m:Nat}{gs:List (List Fd)}{us:List Value}{G:List Fd}{u u':Value}{d:Fd} (h:Jn lo wX w0 w va (.slice (some ⟨q,0,none⟩) gs.length c) l gA i gs us) (hm:m+1=gs.length) (hG:gs[m]?=some G) (hu:us[m]?=some u)
  (ho:w1.ownsRow lo 42 6 u' (G.length+1) (fB (G++[d]))) (nL:w.grownBy w1 u.ownBlock) (pF:u'.ownBlock=u.ownBlock∨u'.ownBlock=some w.heap.size) :
  Jn lo wX w0 (w1.setCell ⟨q,m,none⟩ u') va (.slice (some ⟨q,0,none⟩) gs.length c) l gA (i+1) (gs.set m (G++[d])) (us.set m u'):=by
 have Sz:=h.IZ m G u hG hu
 have hul:∀k,u.ownBlock=some k→lo≤k:=fun k e=>(Sz.lt k e).1
 have ne1:∀(t b:Nat) (cs:Array Value),w.heap[b]?=some (.cells cs t (0,0))→t≠42→w1.heap[b]?=some (.cells cs t (0,0)):=by
  intro t b cs hb ht
  refine (nL.block b (zA hb).1 (fun e=>?_)).trans hb
  obtain ⟨c2,e2⟩:=pc Sz e.symm
  rw[e2] at hb
  simp at hb
  exact ht hb.2.symm
 have Mq:∀{B n:Nat} {x:Value} {xs:List Value},w.ownsRow B 43 1 x n xs→w1.ownsRow B 43 1 x n xs:=by
  intro B n x xs hx
  refine hx.kept nL ?_
  cases e:x.ownBlock with
  |none=>exact .inl rfl
  |some b =>
   refine .inr (fun z=>?_)
   obtain ⟨c1,e1⟩:=mP hx e
   obtain ⟨c2,e2⟩:=pc Sz z.symm
   rw[e1] at e2
   simp at e2
 have oU:=Mq h.row
 obtain ⟨s1,s2⟩:=oU.stored m u'
 have RM:wX≤q:=(h.row.lt q rfl).1
 have Rp:∀(b:Nat) (cs:Array Value),w1.heap[b]?=some (.cells cs 42 (0,0))→(w1.setCell ⟨q,m,none⟩ u').heap[b]?=some (.cells cs 42 (0,0)):=by
  intro b cs hb
  refine (s2.block b (zA hb).1 (fun e=>?_)).trans hb
  obtain ⟨c2,e2⟩:=mP oU e.symm
  rw[e2] at hb
  simp at hb
 have Zc:∀{B n:Nat} {x:Value} {xs:List Value},w1.ownsRow B 42 6 x n xs→(w1.setCell ⟨q,m,none⟩ u').ownsRow B 42 6 x n xs:=by
  intro B n x xs hx
  refine hx.kept s2 ?_
  cases e:x.ownBlock with
  |none=>exact .inl rfl
  |some b =>
   refine .inr (fun z=>?_)
   obtain ⟨c1,e1⟩:=pc hx e
   obtain ⟨c2,e2⟩:=mP oU z.symm
   rw[e1] at e2
   simp at e2
 have Io:∀(k:Nat) (x:Value),(us.set m u')[k]?=some x→(k=m∧x=u')∨(k≠m∧us[k]?=some x):=by
  intro k x hk
  rw[List.getElem?_set] at hk
  split at hk
  ·rename_i e
   split at hk
   ·exact .inl ⟨e.symm,(zC hk).symm⟩
   ·cases hk
  ·rename_i e
   exact .inr ⟨fun z=>e z.symm,hk⟩
 have fresh:∀b,u'.ownBlock=some b→u.ownBlock=some b∨b=w.heap.size:=by
  intro b e
  rcases pF with z|z
  ·exact .inl (z ▸ e)
  ·exact .inr (by rw[z] at e;exact (zC e).symm)
 have MM:∀(k:Nat) (x:Value) (b:Nat),us[k]?=some x→x.ownBlock=some b→b<w.heap.size:=by
  intro k x b hx hb
  obtain ⟨hk,_⟩:=zB hx
  have aW:=List.getElem?_eq_getElem (l:=gs) (show k<gs.length by rw[←h.len];exact hk)
  exact ((h.IZ k _ x aW hx).lt b hb).2
 refine ⟨(h.bU.grown nL (Nat.le_trans h.low h.F8) (fun k e=>hul k e)).grown s2 (Nat.le_trans (Nat.le_trans h.low h.F8) nL.size) (fun k e=>by obtain rfl:=zC e;exact Nat.le_trans h.low RM),Nat.le_trans (Nat.le_trans h.F8 nL.size) s2.size,h.low,(Mq h.SS).kept s2 ?_,h.SU,h.O0,h.Jr,h.and,?_,?_,?_,?_,?_,?_,?_⟩
 ·cases e:va.ownBlock with
  |none=>exact .inl rfl
  |some k=>exact .inr (fun z=>by have:=h.SU k e;have:=zC z;omega)
 ·intro j d' g' hj h1 h2
  have hb:=h.dt j d' g' (by omega) h1 h2
  refine Rp _ _ ((nL.block g' (zA hb).1 (fun e=>?_)).trans hb)
  exact h.OS m j u g' g' (by omega) hu e.symm h2 rfl
 ·rw[List.length_set];exact s1
 ·rw[List.length_set,List.length_set];exact h.len
 ·intro k G' x h1 h2
  rcases Io k x h2 with ⟨rfl,rfl⟩|⟨z1,z2⟩
  ·rw[List.getElem?_set_self (by omega)] at h1
   obtain rfl:=zC h1
   rw[zK]
   exact Zc ho
  ·rw[List.getElem?_set_ne (fun z=>z1 z.symm)] at h1
   have hx:=h.IZ k G' x h1 z2
   refine Zc (hx.kept nL ?_)
   cases e:x.ownBlock with
   |none=>exact .inl rfl
   |some b=>exact .inr (fun z=>h.ap k m x u b z1 z2 hu e z.symm)
 ·intro G' hG'
  rcases List.mem_or_eq_of_mem_set hG' with z|rfl
  ·exact h.ne G' z
  ·rw[zK];simp
 ·intro k k' x x' b hk h1 h2 h3
  rcases Io k x h1 with ⟨rfl,rfl⟩|⟨z1,z2⟩
  ·rcases Io k' x' h2 with ⟨rfl,rfl⟩|⟨y1,y2⟩
   ·exact absurd rfl hk
   ·rcases fresh b h3 with e|rfl
    ·exact h.ap k k' u x' b hk hu y2 e
    ·intro e;have:=MM k' x' _ y2 e;omega
  ·rcases Io k' x' h2 with ⟨rfl,rfl⟩|⟨y1,y2⟩
   ·intro e
    rcases fresh b e with e2|rfl
    ·exact h.ap k k' x u b hk z2 hu h3 e2
    ·have:=MM k x _ z2 h3;omega
   ·exact h.ap k k' x x' b hk z2 y2 h3
 ·intro k j x b g' hj h1 h2 h3
  rcases Io k x h1 with ⟨rfl,rfl⟩|⟨z1,z2⟩
  ·rcases fresh b h2 with e|rfl
   ·exact h.OS k j u b g' (by omega) hu e h3
   ·have:=(h.Jr g' (List.mem_of_getElem? h3)).2
    have:=h.F8
    omega
  ·exact h.OS k j x b g' (by omega) z2 h2 h3
theorem Jn.up {lo wX:Nat}{w0 w w':World}{va v:Value}{l:List Fd}{gA:List Nat}{i:Nat}{gs:List (List Fd)}{us:List Value} (h:Jn lo wX w0 w va v l gA i gs us) (hb:Below w.heap.size w w'):Jn lo wX w0 w' va v l gA i gs us :=
 ⟨h.bU.trans (hb.mono (Nat.le_trans h.low h.F8)),Nat.le_trans h.F8 hb.size,h.low,dL h.SS hb,h.SU,h.O0,h.Jr,h.and,fun j d g hj h1 h2=>(hb.block _ (zA (h.dt j d g hj h1 h2)).1).trans (h.dt j d g hj h1 h2),dL h.row hb,h.len,fun k G u h1 h2=>dL (h.IZ k G u h1 h2) hb,h.ne,h.ap,h.OS⟩
theorem Jn.KZ {lo wX m:Nat}{w0 w w1:World}{va v:Value}{l:List Fd}{gA:List Nat}{i:Nat}{gs:List (List Fd)}{us:List Value}{G:List Fd}{u:Value} (h:Jn lo wX w0 w va v l gA i gs us) (hG:gs[m]?=some G) (hu:us[m]?=some u) (nL:w.grownBy w1 u.ownBlock):w1.ownsRow wX 43 1 v gs.length us:=by
 have Sz:=h.IZ m G u hG hu
 refine h.row.kept nL ?_
 cases e:v.ownBlock with
 |none=>exact .inl rfl
 |some b =>
  refine .inr (fun z=>?_)
  obtain ⟨c1,e1⟩:=mP h.row e
  obtain ⟨c2,e2⟩:=pc Sz z.symm
  rw[e1] at e2
  simp at e2
end Go.Proofs.YtichhjfjcinjgaaGreatDoor

import Derived.Test.YtichhjfjcinjgaaGreatDoorM14
set_option maxHeartbeats 2000000
set_option maxRecDepth 100000
namespace Go.Proofs.YtichhjfjcinjgaaGreatDoor
open Go.RowKit
attribute [local go_sem ↓] Go.wp_at_zero Go.wp_at_succ
theorem Ae:(Tryz.prog.info? 43).map (fun i=>(i.zero,i.size,i.bytes))=some (some (.slice none 0 0),1,24):=by kernel_rfl
theorem IV (w:World) (d:Fd):Calls Tryz.prog 175 #[.agg d.cs.toArray] w fun e w'=>∃g,w.heap.size≤g∧e=.returned (.slice (some ⟨g,0,none⟩) 1 1)∧w'.heap[g]?=some (.cells d.cs.toArray 42 (0,0))∧Below w.heap.size w w':=by
 obtain ⟨aP,key,ty,nm,num,aE⟩:=d
 unfold Fd.cs
 simp only
 obtain ⟨⟨c0,c1,c2,c3,c4,c5⟩,-,hb⟩:=jS w aP num aE key ty nm
 obtain ⟨V,hV⟩:∃V,w.alloc (.cells #[.int .i64 aP,.string key,.string ty,.string nm,.int .i64 num,.int .i64 aE] 42)=V:=⟨_,rfl⟩
 rw[hV] at c0 c1 c2 c3 c4 c5 hb
 have hs:V.heap.size=w.heap.size+1:=by rw[←hV,zJ]
 have HB:=al hb
 have HN:=al (aK V (.cells #[.int .i64 aP,.string key,.string ty,.string nm,.int .i64 num,.int .i64 aE] 42))
 have HS:=al hs
 clear hb hs
 go_enter Tryz.func175,Tryz.ntmps175
 go_wp2
 go_ret
 refine ⟨V.heap.size,by rw[ab HS];omega,rfl,ab HN,(ab HB).alloc (ab HB).size _⟩
def og (g:Nat):Value:=.slice (some ⟨g,0,none⟩) 1 1
structure Al (lo:Nat) (w:World) (v:Value) (l:List Fd) (gs:List Nat):Prop where
 row:w.ownsRow lo 43 1 v l.length (gs.map og)
 len:gs.length=l.length
 dq:∀(i:Nat) (d:Fd) (g:Nat),l[i]?=some d→gs[i]?=some g→w.heap[g]?=some (.cells d.cs.toArray 42 (0,0))
 nd:gs.Nodup
 low:∀g ∈ gs,lo≤g
theorem Al.up {lo:Nat}{w w':World}{v:Value}{l:List Fd}{gs:List Nat} (h:Al lo w v l gs) (hb:Below w.heap.size w w'):Al lo w' v l gs :=
 ⟨dJ h.row hb,h.len,fun i d g h1 h2=>(hb.block _ (zA (h.dq i d g h1 h2)).1).trans (h.dq i d g h1 h2),h.nd,h.low⟩
theorem Al.lt {lo:Nat}{w:World}{v:Value}{l:List Fd}{gs:List Nat} (h:Al lo w v l gs) {g:Nat} (hg:g ∈ gs):g<w.heap.size:=by
 obtain ⟨i,hi,rfl⟩:=List.getElem_of_mem hg
 exact (zA (h.dq i _ _ (List.getElem?_eq_getElem (by rw[←h.len];exact hi)) (List.getElem?_eq_getElem hi))).1
theorem Al.app {lo:Nat}{w w':World}{v v':Value}{l:List Fd}{gs:List Nat}{d:Fd}{g:Nat} (h:Al lo w v l gs) (hg:w.heap[g]?=some (.cells d.cs.toArray 42 (0,0))) (dD:lo≤g) (hn:g ∉ gs) (ho:w'.ownsRow lo 43 1 v' (l.length+1) (gs.map og++[og g])) (nj:w.grownBy w' v.ownBlock):Al lo w' v' (l++[d]) (gs++[g]):=by
 have key:∀(k:Nat) (cs:Array Value),w.heap[k]?=some (.cells cs 42 (0,0))→w'.heap[k]?=some (.cells cs 42 (0,0)):=by
  intro k cs hk
  refine (nj.block k (zA hk).1 (fun e=>?_)).trans hk
  rcases h.row.2 with ⟨rfl,_⟩|⟨q,cap,cur,rfl,_,h4,_⟩
  ·cases e
  ·obtain rfl:k=q:=by simpa[Value.ownBlock] using e
   rw[h4] at hk
   simp at hk
 refine ⟨?_,?_,?_,?_,?_⟩
 ·rw[zK,List.map_append];exact ho
 ·rw[zK,zK,h.len];rfl
 ·intro i d' g' h1 h2
  rcases Nat.lt_or_ge i l.length with q|q
  ·rw[List.getElem?_append_left q] at h1
   rw[List.getElem?_append_left (by rw[h.len];exact q)] at h2
   exact key _ _ (h.dq i d' g' h1 h2)
  ·rw[List.getElem?_append_right q] at h1
   rw[List.getElem?_append_right (by rw[h.len];exact q),h.len] at h2
   obtain ⟨q2,e2⟩:=zB h1
   have q3:i-l.length=0:=by simp at q2;omega
   rw[q3] at h1 h2
   obtain rfl:d=d':=by simpa using h1
   obtain rfl:g=g':=by simpa using h2
   exact key _ _ hg
 ·exact List.nodup_append.2 ⟨h.nd,by simp,fun a ha b hb=>by simp at hb;subst hb;exact fun e=>hn (e ▸ ha)⟩
 ·intro x hx
  rcases List.mem_append.1 hx with q|q
  ·exact h.low x q
  ·simp at q;subst q;exact dD
theorem bL {α:Type}{l:List α}{i:Nat}{x:α} (h:l[i]?=some x):l.take (i+1)=l.take i++[x]:=by
 obtain ⟨hi,rfl⟩:=zB h
 exact List.take_succ_eq_append_getElem hi
theorem E4 {W:World}{v:Value}{l:List Fd} (hv:Rl W v l.length (fw l)) (hl:l.length≤4096) (w0:World) (hw:Below W.heap.size W w0) :
  Calls Tryz.prog 174 #[v,.func (.func 175) #[] #[]] w0 fun e w=>∃u gs,e=.returned u∧Al w0.heap.size w u l gs∧Below w0.heap.size w0 w:=by
 obtain ⟨a,c,rfl,hn,h2⟩:=hv
 obtain ⟨i0,hi,gj,dR,c7⟩:=info_parts Ae
 have H2:=al h2
 have HW:=al hw
 clear h2 hw
 go_enter Tryz.func174,Tryz.ntmps174
 go_wp2
 go_loopg [5,7,10] l.length (fun gk v5 _ v10 wr=>∃(i:Nat) (gs:List Nat),v10=.int .i64 (i:Int)∧gk=l.length-i∧i≤l.length∧Hid (Al w0.heap.size wr v5 (l.take i) gs)∧Hid (Below w0.heap.size w0 wr))
 case atStart=>exact ⟨0,[],rfl,rfl,by omega,⟨⟨rfl,.inl ⟨rfl,rfl⟩⟩,rfl,fun i d g h=>by simp at h,List.nodup_nil,fun g h=>by simp at h⟩,zE _ _⟩
 case round =>
  obtain ⟨i,gs,rfl,aU,eS,HO,HB⟩:=hrel
  have bz:=al aU
  clear aU
  by_cases aM:i<l.length
  ·obtain ⟨g,o,rfl,hg,hc⟩:=ab H2 (by omega)
   have hr:=List.getElem?_eq_getElem aM
   obtain ⟨r,tW⟩:∃r,l[i]=r:=⟨_,rfl⟩
   rw[tW] at hr
   have gP:=al (show Below W.heap.size W wr from (ab HW).trans ((ab HB).mono (ab HW).size))
   have qB:∀j,j<6→wr.cell? ⟨g,o+(i*6+j),none⟩=r.cs[j]?:=by
    intro j hj
    have e:=cA hr hj
    obtain ⟨x,hx⟩:∃x,r.cs[j]?=some x:=⟨_,List.getElem?_eq_getElem (by unfold Fd.cs;exact hj)⟩
    rw[hx] at e ⊢
    exact ((ab gP).cell (p:=⟨g,o+(i*6+j),none⟩) hg).trans (hc _ _ e)
   have th:=al (bL hr)
   have HC:=al (fun w'=>IV w' r)
   obtain ⟨aP,key,ty,nm,num,aE⟩:=r
   unfold Fd.cs at qB
   have x0:=qB 0 (by decide)
   have x1:=qB 1 (by decide)
   have x2:=qB 2 (by decide)
   have x3:=qB 3 (by decide)
   have x4:=qB 4 (by decide)
   have x5:=qB 5 (by decide)
   rw[Nat.add_zero] at x0
   rw[←Nat.add_assoc] at x1 x2 x3 x4 x5
   simp only[List.getElem?_cons_zero,List.getElem?_cons_succ] at x0 x1 x2 x3 x4 x5
   obtain ⟨-,fp,bG⟩:=jS wr aP num aE key ty nm
   obtain ⟨X,hX⟩:∃X,wr.alloc (.cells #[.int .i64 aP,.string key,.string ty,.string nm,.int .i64 num,.int .i64 aE] 42)=X:=⟨_,rfl⟩
   rw[hX] at fp bG
   obtain ⟨b0,b1,b2,b3,b4,b5⟩:=DG fp
   have Uc:=al ((ab HB).trans (bG.mono (ab HB).size))
   have HOX:=al ((ab HO).up bG)
   have SD:=al (fun g' (h:g' ∈ gs)=>Nat.lt_of_lt_of_le ((ab HO).lt h) bG.size)
   have Yd:=al (ab HC X)
   have LW:(0:Int)≤(i:Int):=zH _
   have i1:(i:Int)<(l.length:Int):=by omega
   have bu:=al aM
   have Hl:=al hl
   have Htl:=al (show (l.take i).length=i by rw[List.length_take];omega)
   unfold Fd.cs at Yd
   clear hc hr tW bG HO HB gP aM qB fp HC
   go_wp2_with fail
   refine (ab Yd).mono ?_
   rintro e w1 ⟨gn,PF,rfl,bQ,aW⟩
   have je:=al ((ab HOX).up aW)
   have cN:=al ((ab Uc).trans (aW.mono (ab Uc).size))
   have iJ:=al (ab cN).size
   have Fo:=al bQ
   have Hgn:=al PF
   have HnX:=al (show gn ∉ gs from fun h=>by have:=ab SD gn h;omega)
   have Xs:=al (Nat.le_trans (ab Uc).size PF)
   have oC:=(ab je).row
   rw[ab Htl] at oC
   have CK:=al oC
   clear aW bQ PF Yd HOX Uc SD oC
   go_wp2_with (at_builtin;refine wpList_append_own_at _ rfl _ _ 164 rfl w0.heap.size 43 i0 (.slice none 0 0) 1 24 Tryz.underlying164 hi gj dR c7 rfl (by decide) _ _ _ rfl ((ab CK).alloc _) ⟨w1.heap.size,0,none⟩ 1 1 [.slice (some ⟨gn,0,none⟩) 1 1] rfl rfl (cell_one_new _ _ _) (by simp[Value.oneCell']) (by have:=ab bu;have:=ab Hl;unfold maxLen;omega) (by have:=ab bu;have:=ab Hl;omega) (by rw[zJ];have:=ab iJ;omega) ?_;intro v' w2 ho ei _ _;have Wa:=(World.grownBy_alloc w1 _ _).trans ei;have Qj:=al ((ab je).app (d:=⟨aP,key,ty,nm,num,aE⟩) (ab Fo) (ab Xs) (ab HnX) (by rw[ab Htl];exact ho) Wa);have cR:=al ((ab cN).grown Wa (ab iJ) (fun k e=>((ab je).row.lt k e).1));clear ho ei Wa)
   rw[←ab th] at Qj
   go_roundg (l.length-(i+1))
   case measure=>have:=ab bz;have:=ab bu;omega
   case rel=>exact ⟨i+1,gs++[gn],by go_num,rfl,ab bu,Qj,cR⟩
  ·obtain rfl:i=l.length:=by omega
   have hO:=ab HO
   rw[List.take_length] at hO
   have lO:=al hO
   clear hO
   go_wp2
   go_ret
   exact ⟨_,gs,rfl,ab lO,ab HB⟩
theorem Ky:(Tryz.prog.info? 42).map (fun i=>(i.zero,i.size,i.bytes))=some (some (.agg #[.int .i64 0,.string ⟨#[]⟩,.string ⟨#[]⟩,.string ⟨#[]⟩,.int .i64 0,.int .i64 0]),6,72):=by kernel_rfl
theorem EX (G:List Fd) (d:Fd):fw (G++[d])=fw G++d.cs:=by unfold fw;rw[List.flatMap_append];simp
theorem tn {w:World}{ops:Array Oper}{rest:List Oper}{o:Oper}{a:Act}{Q:Exit→Act→World→Prop} (A':o.guard=none) (s x:Operand) (ho:o.op=.call { callee:=.builtin .append,args:=#[s,x],argTypes:=#[43,43] })
  (lo:Nat) (v:Value) (n:Nat) (xs:List Value) (hs:a.eval s=v) (gD:w.ownsRow lo 42 6 v n xs) (g:Nat) (d:Fd) (hx:a.eval x=.slice (some ⟨g,0,none⟩) 1 1) (hg:∀j y,d.cs[j]?=some y→w.cell? ⟨g,j,none⟩=some y) (hn:n≤4096) (dD:lo≤w.heap.size)
  (h:∀v' w',w'.ownsRow lo 42 6 v' (n+1) (xs++d.cs)→w.grownBy w' v.ownBlock→(v'.ownBlock=v.ownBlock∨v'.ownBlock=some w.heap.size)→wpList Tryz.prog ops Q rest (a.put o.dst v') w'):wpList Tryz.prog ops Q (o::rest) a w:=by
 obtain ⟨i0,hi,gj,dR,c7⟩:=info_parts Ky
 refine wpList_append_own_at _ A' s x 43 ho lo 42 i0 _ 6 72 Tryz.underlying43 hi gj dR c7 rfl (by decide) v n xs hs gD ⟨g,0,none⟩ 1 1 d.cs hx rfl (fun j y hy=>by have e:=hg j y hy;by_cases hj:j=0<;>simpa[Addr.add,hj] using e) ?_ (by unfold maxLen;omega) (by omega) dD (fun v' w' h1 h2 _ h3=>h v' w' h1 h2 h3)
 intro y hy
 simp[Fd.cs] at hy
 rcases hy with rfl|rfl|rfl|rfl|rfl|rfl<;>rfl
def Xa (lo:Nat) (w:World) (u:Value) (G:List Fd) (d:Fd) (q:Bool) (e:Ending) (w':World):Prop:=if q then ∃u',e=.returned (.tuple #[u',.bool true])∧w'.ownsRow lo 42 6 u' (G.length+1) (fw (G++[d]))∧w.grownBy w' u.ownBlock∧(u'.ownBlock=u.ownBlock∨u'.ownBlock=some w.heap.size) else e=.returned (.tuple #[.slice none 0 0,.bool false])∧Below w.heap.size w w'
def tR (a b:Fd):Bool:=!(a.aE==0)&&(a.aE==b.aE)
theorem IU {w:World}{lo g:Nat}{u:Value}{G:List Fd}{d1 d:Fd} (hu:w.ownsRow lo 42 6 u G.length (fw G)) (h0:G[0]?=some d1) (hG:G.length≤4096) (hg:w.heap[g]?=some (.cells d.cs.toArray 42 (0,0))) (dD:lo≤w.heap.size) :
  Calls Tryz.prog 177 #[u,.slice (some ⟨g,0,none⟩) 1 1] w (Xa lo w u G d (tR d1 d)):=by
 have xN:0<G.length:=(zB h0).1
 have HU:=al hu
 obtain ⟨h1,⟨rfl,h2⟩|⟨h,c,cur,rfl,hB,hh,h3,h4,h5,h6⟩⟩:=hu
 ·omega
 have a5:w.cell? ⟨h,5,none⟩=some (.int .i64 d1.aE):=by
  rw[cell_of_row _ _ _ _ _ _ hh,←Array.getElem?_toList]
  have e1:=cA h0 (j:=5) (by decide)
  rw[←h6,List.getElem?_take,if_pos (by omega)] at e1
  simpa[Fd.cs] using e1
 have gc:∀j x,d.cs[j]?=some x→w.cell? ⟨g,j,none⟩=some x:=by
  intro j x hx
  rw[cell_of_row _ _ _ _ _ _ hg]
  simpa using hx
 have b5:=gc 5 _ rfl
 have TW:=al gc
 have i1:(0:Int)<(G.length:Int):=by omega
 have HG:=al hG
 have OK:=al dD
 unfold tR Xa
 clear h1 hB hh h3 h4 h5 h6 gc hg h0 dD
 cases q0:(d1.aE==0) with
 |true =>
  go_enter Tryz.func177,Tryz.ntmps177
  go_wp2_with fail
  go_quiet (fail)
  go_wp2
  go_ret2
  exact ⟨rfl,below_drewN (zE _ _) _⟩
 |false =>
  cases q1:(d1.aE==d.aE) with
  |false =>
   have q2:(d1.aE != d.aE)=true:=by simpa[bne] using q1
   go_enter Tryz.func177,Tryz.ntmps177
   go_wp2_with fail
   go_quiet (fail)
   go_wp2
   go_ret2
   exact ⟨rfl,below_drewN (zE _ _) _⟩
  |true =>
   have q2:(d1.aE != d.aE)=false:=by simpa[bne] using q1
   go_enter Tryz.func177,Tryz.ntmps177
   go_wp2_with fail
   go_quiet (fail)
   have HU2:=al (dJ (ab HU) (below_drewN (zE w.heap.size w) nq))
   have Xw:Hid (∀j x,d.cs[j]?=some x→(w.drewN nq).cell? ⟨g,j,none⟩=some x):=fun j x hx=>ab TW j x hx
   clear a5 b5 q0 q1 q2
   go_wp2_with (at_builtin;refine tn rfl _ _ rfl lo _ _ _ rfl (ab HU2) g d rfl (ab Xw) (ab HG) (ab OK) ?_;intro v' w2 ho ei pd;have lO:=al ho;have Fx:=al ei;have Qj:=al pd;obtain ⟨a',l',c',rfl⟩:∃a l c,v'=.slice a l c:=(by rcases ho.2 with ⟨rfl,_⟩|⟨_,_,_,rfl,_⟩<;>exact ⟨_,_,_,rfl⟩);clear ho ei pd)
   go_ret2
   have hg:=ab Fx
   exact ⟨_,rfl,by rw[EX];exact ab lO,⟨hg.os,hg.tape,hg.output,hg.size,hg.block⟩,ab Qj⟩
structure Jn (lo wm:Nat) (w0 w:World) (va v:Value) (l:List Fd) (gA:List Nat) (i:Nat) (gs:List (List Fd)) (us:List Value):Prop where
 bW:Below lo w0 w
 FB:wm≤w.heap.size
 low:lo≤wm
 Sr:w.ownsRow lo 43 1 va l.length (gA.map og)
 Ss:∀k,va.ownBlock=some k→k<wm
 OA:gA.length=l.length
 IW:∀g ∈ gA,lo≤g∧g<wm
 and:gA.Nodup
 dq:∀(j:Nat) (d:Fd) (g:Nat),i≤j→l[j]?=some d→gA[j]?=some g→w.heap[g]?=some (.cells d.cs.toArray 42 (0,0))
 row:w.ownsRow wm 43 1 v gs.length us
 len:us.length=gs.length
 Iq:∀(k:Nat) (G:List Fd) (u:Value),gs[k]?=some G→us[k]?=some u→w.ownsRow lo 42 6 u G.length (fw G)
 ne:∀G ∈ gs,0<G.length
 ap:∀(k k':Nat) (u u':Value) (b:Nat),k≠k'→us[k]?=some u→us[k']?=some u'→u.ownBlock=some b→u'.ownBlock≠some b
 Oq:∀(k j:Nat) (u:Value) (b g:Nat),i≤j→us[k]?=some u→u.ownBlock=some b→gA[j]?=some g→b≠g
theorem oN {lo n:Nat}{w:World}{u:Value}{xs:List Value}{t b:Nat} (h:w.ownsRow lo t 6 u n xs) (hb:u.ownBlock=some b):∃cs,w.heap[b]?=some (.cells cs t (0,0)):=by
 rcases h.2 with ⟨rfl,_⟩|⟨q,cap,cur,rfl,_,h4,_⟩
 ·cases hb
 ·obtain rfl:q=b:=by simpa[Value.ownBlock] using hb
  exact ⟨_,h4⟩
theorem my {lo n:Nat}{w:World}{u:Value}{xs:List Value}{t b:Nat} (h:w.ownsRow lo t 1 u n xs) (hb:u.ownBlock=some b):∃cs,w.heap[b]?=some (.cells cs t (0,0)):=by
 rcases h.2 with ⟨rfl,_⟩|⟨q,cap,cur,rfl,_,h4,_⟩
 ·cases hb
 ·obtain rfl:q=b:=by simpa[Value.ownBlock] using hb
  exact ⟨_,h4⟩
theorem Kj {lo g:Nat}{w:World}{d:Fd} (hg:w.heap[g]?=some (.cells d.cs.toArray 42 (0,0))) (dD:lo≤g):w.ownsRow lo 42 6 (og g) [d].length (fw [d]):=by
 refine ⟨rfl,.inr ⟨g,1,d.cs.toArray,rfl,dD,hg,zD _,by unfold maxLen;omega,rfl,?_⟩⟩
 unfold fw
 simp[Fd.cs]
theorem Jn.app {lo wm:Nat}{w0 w w':World}{va v v':Value}{l:List Fd}{gA:List Nat}{i:Nat}{gs:List (List Fd)}{us:List Value}{d:Fd}{g:Nat} (h:Jn lo wm w0 w va v l gA i gs us) (hd:l[i]?=some d) (hg:gA[i]?=some g) (ho:w'.ownsRow wm 43 1 v' (gs.length+1) (us++[og g])) (nj:w.grownBy w' v.ownBlock):Jn lo wm w0 w' va v' l gA (i+1) (gs++[([d])]) (us++[og g]):=by
 have VC:∀k,v.ownBlock=some k→wm≤k:=fun k e=>(h.row.lt k e).1
 have B0:∀(b:Nat) (cs:Array Value),w.heap[b]?=some (.cells cs 42 (0,0))→w'.heap[b]?=some (.cells cs 42 (0,0)):=by
  intro b cs hb
  refine (nj.block b (zA hb).1 (fun e=>?_)).trans hb
  obtain ⟨ZZ,h2⟩:=my h.row e.symm
  rw[h2] at hb
  simp at hb
 have PG:g ∈ gA:=List.mem_of_getElem? hg
 have Ck:=h.dq i d g (zD _) hd hg
 have Q':∀(k:Nat) (u:Value),(us++[og g])[k]?=some u→(us[k]?=some u∧k<us.length)∨(k=us.length∧u=og g):=by
  intro k u hk
  rcases Nat.lt_or_ge k us.length with q|q
  ·rw[List.getElem?_append_left q] at hk;exact .inl ⟨hk,q⟩
  ·rw[List.getElem?_append_right q] at hk
   obtain ⟨q2,_⟩:=zB hk
   have q3:k-us.length=0:=by simp at q2;omega
   rw[q3] at hk
   exact .inr ⟨by omega,by simpa using hk.symm⟩
 refine ⟨h.bW.grown nj (Nat.le_trans h.low h.FB) (fun k e=>Nat.le_trans h.low (VC k e)),Nat.le_trans h.FB nj.size,h.low,h.Sr.kept nj ?_,h.Ss,h.OA,h.IW,h.and,fun j d' g' hj h1 h2=>B0 _ _ (h.dq j d' g' (by omega) h1 h2),?_,?_,?_,?_,?_,?_⟩
 ·cases e:va.ownBlock with
  |none=>exact .inl rfl
  |some k=>exact .inr (fun q=>by have:=VC k q.symm;have:=h.Ss k e;omega)
 ·rw[zK];exact ho
 ·rw[zK,zK,h.len];rfl
 ·intro k G u h1 h2
  rcases Q' k u h2 with ⟨q1,q2⟩|⟨rfl,rfl⟩
  ·rw[List.getElem?_append_left (by rw[←h.len];exact q2)] at h1
   have hG:=h.Iq k G u h1 q1
   refine hG.kept nj ?_
   cases e:u.ownBlock with
   |none=>exact .inl rfl
   |some b =>
    refine .inr (fun q=>?_)
    obtain ⟨c1,e1⟩:=oN hG e
    obtain ⟨c2,e2⟩:=my h.row q.symm
    rw[e1] at e2
    simp at e2
  ·rw[h.len,List.getElem?_append_right (zD _),Nat.sub_self] at h1
   obtain rfl:[d]=G:=by simpa using h1
   exact Kj (B0 _ _ Ck) (h.IW g PG).1
 ·intro G hG
  rcases List.mem_append.1 hG with q|q
  ·exact h.ne G q
  ·simp at q;subst q;exact Nat.one_pos
 ·intro k k' u u' b hk h1 h2 h3
  rcases Q' k u h1 with ⟨q1,q2⟩|⟨rfl,rfl⟩
  ·rcases Q' k' u' h2 with ⟨r1,r2⟩|⟨rfl,rfl⟩
   ·exact h.ap k k' u u' b hk q1 r1 h3
   ·intro e
    obtain rfl:g=b:=by simpa[og,Value.ownBlock] using e
    exact h.Oq k i u g g (zD _) q1 h3 hg rfl
  ·rcases Q' k' u' h2 with ⟨r1,r2⟩|⟨rfl,rfl⟩
   ·obtain rfl:g=b:=by simpa[og,Value.ownBlock] using h3
    intro e
    exact h.Oq k' i u' g g (zD _) r1 e hg rfl
   ·exact absurd rfl hk
 ·intro k j u b g' hj h1 h2 h3
  rcases Q' k u h1 with ⟨q1,q2⟩|⟨rfl,rfl⟩
  ·exact h.Oq k j u b g' (by omega) q1 h2 h3
  ·obtain rfl:g=b:=by simpa[og,Value.ownBlock] using h2
   intro e
   subst e
   obtain ⟨a1,a2⟩:=zB hg
   obtain ⟨b1,b2⟩:=zB h3
   exact (List.pairwise_iff_getElem.1 h.and) i j a1 b1 (by omega) (a2.trans b2.symm)
theorem Jn.join {lo wm q c:Nat}{w0 w w1:World}{va:Value}{l:List Fd}{gA:List Nat}{i m:Nat}{gs:List (List Fd)}{us:List Value}{G:List Fd}{u u':Value}{d:Fd} (h:Jn lo wm w0 w va (.slice (some ⟨q,0,none⟩) gs.length c) l gA i gs us) (hm:m+1=gs.length) (hG:gs[m]?=some G) (hu:us[m]?=some u)
  (ho:w1.ownsRow lo 42 6 u' (G.length+1) (fw (G++[d]))) (nj:w.grownBy w1 u.ownBlock) (pd:u'.ownBlock=u.ownBlock∨u'.ownBlock=some w.heap.size) :
  Jn lo wm w0 (w1.setCell ⟨q,m,none⟩ u') va (.slice (some ⟨q,0,none⟩) gs.length c) l gA (i+1) (gs.set m (G++[d])) (us.set m u'):=by
 have R8:=h.Iq m G u hG hu
 have hul:∀k,u.ownBlock=some k→lo≤k:=fun k e=>(R8.lt k e).1
 have ne1:∀(t b:Nat) (cs:Array Value),w.heap[b]?=some (.cells cs t (0,0))→t≠42→w1.heap[b]?=some (.cells cs t (0,0)):=by
  intro t b cs hb ht
  refine (nj.block b (zA hb).1 (fun e=>?_)).trans hb
  obtain ⟨c2,e2⟩:=oN R8 e.symm
  rw[e2] at hb
  simp at hb
  exact ht hb.2.symm
 have LV:∀{B n:Nat} {x:Value} {xs:List Value},w.ownsRow B 43 1 x n xs→w1.ownsRow B 43 1 x n xs:=by
  intro B n x xs hx
  refine hx.kept nj ?_
  cases e:x.ownBlock with
  |none=>exact .inl rfl
  |some b =>
   refine .inr (fun z=>?_)
   obtain ⟨c1,e1⟩:=my hx e
   obtain ⟨c2,e2⟩:=oN R8 z.symm
   rw[e1] at e2
   simp at e2
 have oC:=LV h.row
 obtain ⟨s1,s2⟩:=oC.stored m u'
 have Rm:wm≤q:=(h.row.lt q rfl).1
 have QX:∀(b:Nat) (cs:Array Value),w1.heap[b]?=some (.cells cs 42 (0,0))→(w1.setCell ⟨q,m,none⟩ u').heap[b]?=some (.cells cs 42 (0,0)):=by
  intro b cs hb
  refine (s2.block b (zA hb).1 (fun e=>?_)).trans hb
  obtain ⟨c2,e2⟩:=my oC e.symm
  rw[e2] at hb
  simp at hb
 have YJ:∀{B n:Nat} {x:Value} {xs:List Value},w1.ownsRow B 42 6 x n xs→(w1.setCell ⟨q,m,none⟩ u').ownsRow B 42 6 x n xs:=by
  intro B n x xs hx
  refine hx.kept s2 ?_
  cases e:x.ownBlock with
  |none=>exact .inl rfl
  |some b =>
   refine .inr (fun z=>?_)
   obtain ⟨c1,e1⟩:=oN hx e
   obtain ⟨c2,e2⟩:=my oC z.symm
   rw[e1] at e2
   simp at e2
 have GX:∀(k:Nat) (x:Value),(us.set m u')[k]?=some x→(k=m∧x=u')∨(k≠m∧us[k]?=some x):=by
  intro k x hk
  rw[List.getElem?_set] at hk
  split at hk
  ·rename_i e
   split at hk
   ·exact .inl ⟨e.symm,(zC hk).symm⟩
   ·cases hk
  ·rename_i e
   exact .inr ⟨fun z=>e z.symm,hk⟩
 have fresh:∀b,u'.ownBlock=some b→u.ownBlock=some b∨b=w.heap.size:=by
  intro b e
  rcases pd with z|z
  ·exact .inl (z ▸ e)
  ·exact .inr (by rw[z] at e;exact (zC e).symm)
 have Mn:∀(k:Nat) (x:Value) (b:Nat),us[k]?=some x→x.ownBlock=some b→b<w.heap.size:=by
  intro k x b hx hb
  obtain ⟨hk,_⟩:=zB hx
  have aU:=List.getElem?_eq_getElem (l:=gs) (show k<gs.length by rw[←h.len];exact hk)
  exact ((h.Iq k _ x aU hx).lt b hb).2
 refine ⟨(h.bW.grown nj (Nat.le_trans h.low h.FB) (fun k e=>hul k e)).grown s2 (Nat.le_trans (Nat.le_trans h.low h.FB) nj.size) (fun k e=>by obtain rfl:=zC e;exact Nat.le_trans h.low Rm),Nat.le_trans (Nat.le_trans h.FB nj.size) s2.size,h.low,(LV h.Sr).kept s2 ?_,h.Ss,h.OA,h.IW,h.and,?_,?_,?_,?_,?_,?_,?_⟩
 ·cases e:va.ownBlock with
  |none=>exact .inl rfl
  |some k=>exact .inr (fun z=>by have:=h.Ss k e;have:=zC z;omega)
 ·intro j d' g' hj h1 h2
  have hb:=h.dq j d' g' (by omega) h1 h2
  refine QX _ _ ((nj.block g' (zA hb).1 (fun e=>?_)).trans hb)
  exact h.Oq m j u g' g' (by omega) hu e.symm h2 rfl
 ·rw[List.length_set];exact s1
 ·rw[List.length_set,List.length_set];exact h.len
 ·intro k G' x h1 h2
  rcases GX k x h2 with ⟨rfl,rfl⟩|⟨z1,z2⟩
  ·rw[List.getElem?_set_self (by omega)] at h1
   obtain rfl:=zC h1
   rw[zK]
   exact YJ ho
  ·rw[List.getElem?_set_ne (fun z=>z1 z.symm)] at h1
   have hx:=h.Iq k G' x h1 z2
   refine YJ (hx.kept nj ?_)
   cases e:x.ownBlock with
   |none=>exact .inl rfl
   |some b=>exact .inr (fun z=>h.ap k m x u b z1 z2 hu e z.symm)
 ·intro G' hG'
  rcases List.mem_or_eq_of_mem_set hG' with z|rfl
  ·exact h.ne G' z
  ·rw[zK];simp
 ·intro k k' x x' b hk h1 h2 h3
  rcases GX k x h1 with ⟨rfl,rfl⟩|⟨z1,z2⟩
  ·rcases GX k' x' h2 with ⟨rfl,rfl⟩|⟨y1,y2⟩
   ·exact absurd rfl hk
   ·rcases fresh b h3 with e|rfl
    ·exact h.ap k k' u x' b hk hu y2 e
    ·intro e;have:=Mn k' x' _ y2 e;omega
  ·rcases GX k' x' h2 with ⟨rfl,rfl⟩|⟨y1,y2⟩
   ·intro e
    rcases fresh b e with e2|rfl
    ·exact h.ap k k' x u b hk z2 hu h3 e2
    ·have:=Mn k x _ z2 h3;omega
   ·exact h.ap k k' x x' b hk z2 y2 h3
 ·intro k j x b g' hj h1 h2 h3
  rcases GX k x h1 with ⟨rfl,rfl⟩|⟨z1,z2⟩
  ·rcases fresh b h2 with e|rfl
   ·exact h.Oq k j u b g' (by omega) hu e h3
   ·have:=(h.IW g' (List.mem_of_getElem? h3)).2
    have:=h.FB
    omega
  ·exact h.Oq k j x b g' (by omega) z2 h2 h3
theorem Jn.up {lo wm:Nat}{w0 w w':World}{va v:Value}{l:List Fd}{gA:List Nat}{i:Nat}{gs:List (List Fd)}{us:List Value} (h:Jn lo wm w0 w va v l gA i gs us) (hb:Below w.heap.size w w'):Jn lo wm w0 w' va v l gA i gs us :=
 ⟨h.bW.trans (hb.mono (Nat.le_trans h.low h.FB)),Nat.le_trans h.FB hb.size,h.low,dJ h.Sr hb,h.Ss,h.OA,h.IW,h.and,fun j d g hj h1 h2=>(hb.block _ (zA (h.dq j d g hj h1 h2)).1).trans (h.dq j d g hj h1 h2),dJ h.row hb,h.len,fun k G u h1 h2=>dJ (h.Iq k G u h1 h2) hb,h.ne,h.ap,h.Oq⟩
theorem Jn.Kv {lo wm m:Nat}{w0 w w1:World}{va v:Value}{l:List Fd}{gA:List Nat}{i:Nat}{gs:List (List Fd)}{us:List Value}{G:List Fd}{u:Value} (h:Jn lo wm w0 w va v l gA i gs us) (hG:gs[m]?=some G) (hu:us[m]?=some u) (nj:w.grownBy w1 u.ownBlock):w1.ownsRow wm 43 1 v gs.length us:=by
 have R8:=h.Iq m G u hG hu
 refine h.row.kept nj ?_
 cases e:v.ownBlock with
 |none=>exact .inl rfl
 |some b =>
  refine .inr (fun z=>?_)
  obtain ⟨c1,e1⟩:=my h.row e
  obtain ⟨c2,e2⟩:=oN R8 z.symm
  rw[e1] at e2
  simp at e2
end Go.Proofs.YtichhjfjcinjgaaGreatDoor

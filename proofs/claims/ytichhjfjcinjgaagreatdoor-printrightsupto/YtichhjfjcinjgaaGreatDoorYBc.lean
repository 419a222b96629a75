import Derived.Test.YtichhjfjcinjgaaGreatDoorM26
set_option maxHeartbeats 4000000
set_option maxRecDepth 100000
namespace Go.Proofs.YtichhjfjcinjgaaGreatDoor
open Go.RowKit
attribute [local go_sem ↓] Go.wp_at_zero Go.wp_at_succ
theorem Np:(Tryz.prog.info? 74).map (fun i=>(i.zero,i.size,i.bytes))=some (some (.agg #[.string ByteArray.empty,.int .i64 0]),2,24):=by kernel_rfl
theorem Nq:(Tryz.prog.info? 67).map (fun i=>(i.zero,i.size,i.bytes))=some (some (.agg #[.string ByteArray.empty,.slice none 0 0,.slice none 0 0,.slice none 0 0]),4,88):=by kernel_rfl
theorem J3 {l:List (ByteArray×Int)}{i:Nat}{x:ByteArray×Int} (h:l[i]?=some x):qP (l.take (i+1))=qP (l.take i)++[.string x.1,.int .i64 x.2]:=by
 rw[bL h]
 unfold qP
 rw[List.flatMap_append]
 simp
def JG (e:En):Prop:=e.aQ.length*24≤140737488355328∧e.res.length*16≤140737488355328∧e.gone.length*16≤140737488355328
def Rest (B:Nat) (v:Value) (g:Nat):Prop:=B≤g∧v.ownBlock≠some g
theorem eA {P:Program}{md:Region.Mode}{ops:Array Oper}{Q:Exit→Act→World→Prop}{T:World→Prop}{z:Nat} (i j:Nat) {oi oj:Oper}{n:Nat}{d:Array Bool}{a:Act}{w:World} (hr:Region.ready md ops d=[i,j]) (hi:ops[i]?=some oi) (hj:ops[j]?=some oj)
  (h1:∀K:Act→World→Prop,(∀a' w',((i≠z→T w')∧cc P md ops Q T z n (d.setIfInBounds i true) a' w')→K a' w')→if Region.wanted oi (yielded ops a.tmps)=true then Oper.wp P oi a w K Q else K (a.put oi.dst undef) w)
  (h2:∀K:Act→World→Prop,(∀a' w',((j≠z→T w')∧cc P md ops Q T z n (d.setIfInBounds j true) a' w')→K a' w')→if Region.wanted oj (yielded ops a.tmps)=true then Oper.wp P oj a w K Q else K (a.put oj.dst undef) w):cc P md ops Q T z (n+1) d a w:=by
 refine ⟨fun h0=>(by rw[h0] at hr;cases hr),fun k hk=>?_⟩
 rw[hr] at hk
 rcases (by simpa using hk:k=i∨k=j) with rfl|rfl
 ·exact wpOp_step hi h1
 ·exact wpOp_step hj h2
theorem oc {B B':Nat}{w:World}{e size n:Nat}{v:Value}{xs:List Value} (h:w.ownsRow B e size v n xs) (hb:B'≤B):w.ownsRow B' e size v n xs:=by
 obtain ⟨h1,h|⟨g,cap,cur,rfl,h2,h3⟩⟩:=h
 ·exact ⟨h1,.inl h⟩
 ·exact ⟨h1,.inr ⟨g,cap,cur,rfl,Nat.le_trans hb h2,h3⟩⟩
theorem bq {B:Nat}{w:World}{e size n:Nat}{v:Value}{xs:List Value} (h:w.ownsRow B e size v n xs):∃a c,v=.slice a n c:=by
 obtain ⟨h1,⟨rfl,rfl⟩|⟨g,cap,cur,rfl,h2,h3⟩⟩:=h
 ·exact ⟨_,_,rfl⟩
 ·exact ⟨_,_,rfl⟩
structure yI (wr w:World) (b:Nat) (uv ur ug:Value) (m:En):Prop where
 bW:Below wr.heap.size wr w
 low:wr.heap.size≤b
 dq:w.heap[b]?=some (.cells #[.string m.name,uv,ur,ug] 67 (0,0))
 r:w.ownsRow wr.heap.size 111 2 ur m.res.length (kQ m.res)
 g:w.ownsRow wr.heap.size 9 1 ug m.gone.length (bZ m.gone)
theorem dQ {B:Nat}{w:World}{e size n b t:Nat}{v:Value}{xs:List Value}{cs:Array Value}{fr:Nat×Nat} (h:w.ownsRow B e size v n xs) (hb:w.heap[b]?=some (.cells cs t fr)) (ht:e≠t):v.ownBlock≠some b:=by
 intro hv
 obtain ⟨h1,⟨rfl,_⟩|⟨g,cap,cur,rfl,_,h4,_⟩⟩:=h
 ·cases hv
 ·obtain rfl:g=b:=by simpa[Value.ownBlock] using hv
  rw[h4] at hb
  simp at hb
  exact ht hb.2.1
theorem Dg {B B':Nat}{w:World}{e e' size QK n n':Nat}{v u:Value}{xs ys:List Value} (h:w.ownsRow B e size v n xs) (k:w.ownsRow B' e' QK u n' ys) (ht:e≠e'):u.ownBlock=none∨u.ownBlock≠v.ownBlock:=by
 cases hu:u.ownBlock with
 |none=>exact .inl rfl
 |some q =>
  obtain ⟨k1,⟨rfl,_⟩|⟨g,cap,cur,rfl,_,h4,_⟩⟩:=k
  ·cases hu
  ·obtain rfl:g=q:=by simpa[Value.ownBlock] using hu
   exact .inr (fun e=>dQ h h4 ht e.symm)
theorem yI.B0 {wr w w':World}{b:Nat}{uv ur ug:Value}{m:En} (h:yI wr w b uv ur ug m) {k:Option Nat} (hg:w.grownBy w' k) (h1:∀j,k=some j→wr.heap.size≤j) (h2:k≠some b) (h3:ur.ownBlock=none∨ur.ownBlock≠k) (h4:ug.ownBlock=none∨ug.ownBlock≠k):yI wr w' b uv ur ug m :=
 ⟨h.bW.grown hg h.bW.size h1,h.low,(hg.block _ (zA h.dq).1 (fun e=>h2 e.symm)).trans h.dq,h.r.kept hg h3,h.g.kept hg h4⟩
theorem yI.below {wr w w':World}{b:Nat}{uv ur ug:Value}{m:En} (h:yI wr w b uv ur ug m) (hb:Below w.heap.size w w'):yI wr w' b uv ur ug m :=
 ⟨h.bW.trans (hb.mono h.bW.size),h.low,(hb.block _ (zA h.dq).1).trans h.dq,dJ h.r hb,dJ h.g hb⟩
theorem yI.new {wr w:World}{b:Nat}{ur ug x0 x1 x2 x3:Value}{m:En} (hb:Below wr.heap.size wr w) (dD:wr.heap.size≤b) (hk:w.heap[b]?=some (.cells #[x0,x1,x2,x3] 67 (0,0))) (hr:w.ownsRow wr.heap.size 111 2 ur m.res.length (kQ m.res)) (hg:w.ownsRow wr.heap.size 9 1 ug m.gone.length (bZ m.gone)) :
  yI wr ((((w.setCell ⟨b,0,none⟩ (.string m.name)).setCell ⟨b,1,none⟩ (.slice none 0 0)).setCell ⟨b,2,none⟩ ur).setCell ⟨b,3,none⟩ ug) b (.slice none 0 0) ur ug m:=by
 obtain ⟨a1,a2⟩:=bh (j:=0) hk (.string m.name)
 obtain ⟨b1,b2⟩:=bh (j:=1) a1 (.slice none 0 0)
 obtain ⟨c1,c2⟩:=bh (j:=2) b1 ur
 obtain ⟨d1,d2⟩:=bh (j:=3) c1 ug
 have nj:=((a2.trans b2).trans c2).trans d2
 exact ⟨hb.grown nj hb.size (fun k e=>by obtain rfl:=zC e;exact dD),dD,d1,hr.kept nj (.inr (dQ hr hk (by decide))),hg.kept nj (.inr (dQ hg hk (by decide)))⟩
theorem yI.val {wr w:World}{b:Nat}{uv ur ug:Value}{m:En} (h:yI wr w b uv ur ug m) (u:Value):yI wr (w.setCell ⟨b,1,none⟩ u) b u ur ug m∧w.grownBy (w.setCell ⟨b,1,none⟩ u) (some b):=by
 obtain ⟨a1,a2⟩:=bh (j:=1) h.dq u
 exact ⟨⟨h.bW.grown a2 h.bW.size (fun k e=>by obtain rfl:=zC e;exact h.low),h.low,a1,h.r.kept a2 (.inr (dQ h.r h.dq (by decide))),h.g.kept a2 (.inr (dQ h.g h.dq (by decide)))⟩,a2⟩
theorem Kk {w0 wo wr wy w2:World}{v3 v' uv ur ug:Value}{iN:List Value}{l:List En}{i b:Nat}{m:En} (hO:wo.ownsRow w0.heap.size 67 4 v3 i iN) (hE:pn (Rest w0.heap.size v3) wo iN (l.take i)) (hC:yI wo wr b uv ur ug m) (hV:wr.ownsRow wo.heap.size 74 2 uv m.aQ.length (qP m.aQ)) (hm:JG m) (hB:w0.heap.size≤wo.heap.size) (hr:l[i]?=some m)
  (hy:Below wr.heap.size wr wy) (hg:wy.grownBy w2 v3.ownBlock) (ef:v'.ownBlock=v3.ownBlock∨v'.ownBlock=some wy.heap.size):pn (Rest w0.heap.size v') w2 (iN++[.string m.name,uv,ur,ug]) (l.take (i+1)):=by
 obtain ⟨NB,PB,hm3⟩:=hm
 have xM:=hC.bW.size
 have gp:=hy.size
 rw[bL hr]
 refine (hE.mono (R':=Rest w0.heap.size v') (fun g dM hl=>?_)).app (.cons ((cz hV (by omega)).mono ?_) ((cz hC.r (by omega)).mono ?_) ((cz hC.g (by omega)).mono ?_) .nil)
 ·refine ⟨((hg.block g (by omega) (fun e=>dM.2 e.symm)).trans (hy.block g (by omega))).trans (hC.bW.block g hl),dM.1,?_⟩
  rcases ef with e|e
  ·rw[e];exact dM.2
  ·rw[e];intro q;obtain rfl:=zC q;omega
 all_goals
  intro g dM hl
  have iI:v3.ownBlock≠some g:=fun e=>by have:=(hO.lt g e).2;omega
  refine ⟨(hg.block g (by omega) (fun e=>iI e.symm)).trans (hy.block g (by omega)),by omega,?_⟩
  rcases ef with e|e
  ·rw[e];exact iI
  ·rw[e];intro q;obtain rfl:=zC q;omega
theorem pO (w:World) (xs:List Value) (t:TypeId):∀j u,xs[j]?=some u→(w.alloc (.cells xs.toArray t)).cell? ((⟨w.heap.size,0,none⟩:Addr).add j)=some u:=by
 intro j u h
 have e:(w.alloc (.cells xs.toArray t)).cell? ⟨w.heap.size,j,none⟩=some u:=by
  rw[cell_of_row _ _ _ _ _ _ (aK w _)]
  simpa using h
 by_cases hj:j=0<;>simpa[Addr.add,hj] using e
theorem wQ {W:World}{v:Value}{l:List En}{cs:List Value} (hv:Rl W v l.length cs) (he:vl W cs l) (hl:l.length*88≤140737488355328) (hz:∀e ∈ l,JG e) (w0:World) (hw:Below W.heap.size W w0) :
  Calls Tryz.prog 18 #[v] w0 fun e w=>∃u iN,e=.returned u∧w.ownsRow w0.heap.size 67 4 u l.length iN∧pn (Rest w0.heap.size u) w iN l∧Below w0.heap.size w0 w:=by
 obtain ⟨a,c,rfl,hn,h2⟩:=hv
 obtain ⟨i0,hi,gj,dR,c7⟩:=info_parts Nq
 obtain ⟨j0,hj,Vl,Vk,Vj⟩:=info_parts Np
 have H2:=al h2
 have HW:=al hw
 have Hl:=al hl
 have Xz:=al he
 have Hz:=al hz
 clear h2 hw hl he hz
 go_enter Tryz.func18,Tryz.ntmps18
 go_wp2
 go_loopg [3,4,5,6] l.length (fun gk v3 v4 _ _ wr=>∃(i:Nat) (iN:List Value),v4=.int .i64 (i:Int)∧gk=l.length-i∧i≤l.length∧Hid (wr.ownsRow w0.heap.size 67 4 v3 i iN)∧Hid (pn (Rest w0.heap.size v3) wr iN (l.take i))∧Hid (Below w0.heap.size w0 wr))
 case atStart=>exact ⟨0,[],rfl,rfl,by omega,⟨rfl,.inl ⟨rfl,rfl⟩⟩,.nil,zE _ _⟩
 case round =>
  obtain ⟨i,iN,rfl,aU,eS,HO,Tb,HB⟩:=hrel
  have bz:=al aU
  clear aU
  obtain ⟨wo,iA⟩:∃x,x=wr:=⟨_,rfl⟩
  subst iA
  by_cases aM:i<l.length
  ·obtain ⟨g,o,rfl,hg,hc⟩:=ab H2 (by omega)
   have hr:=List.getElem?_eq_getElem aM
   have cI:=List.getElem_mem aM
   obtain ⟨m,yz⟩:∃m,l[i]=m:=⟨_,rfl⟩
   rw[yz] at hr cI
   obtain ⟨vv,vr,vg,dU,Q6,Dp,Dq⟩:=(ab Xz).at i m hr
   have gP:=al (show Below W.heap.size W wo from (ab HW).trans ((ab HB).mono (ab HW).size))
   have dB:Hid (∀w',Below W.heap.size W w'→w'.cell? ⟨g,o+i*4,none⟩=some (.string m.name)∧w'.cell? ⟨g,o+i*4+1,none⟩=some vv∧w'.cell? ⟨g,o+i*4+2,none⟩=some vr∧w'.cell? ⟨g,o+i*4+3,none⟩=some vg):=by
    intro w' hb
    have key:∀(j:Nat) (x:Value),[Value.string m.name,vv,vr,vg][j]?=some x→w'.cell? ⟨g,o+(i*4+j),none⟩=some x:=fun j x hx=>(hb.cell (p:=⟨g,o+(i*4+j),none⟩) hg).trans (hc _ _ (by
     rw[←dU,List.getElem?_take,List.getElem?_drop] at hx
     split at hx
     ·exact hx
     ·cases hx))
    exact ⟨key 0 _ rfl,key 1 _ rfl,key 2 _ rfl,key 3 _ rfl⟩
   have HR:=al (fun w' hb=>tG Dp (ab Hz m cI).2.1 w' hb)
   have HT:=al (fun w' hb=>mv Dq (ab Hz m cI).2.2 w' hb)
   obtain ⟨av,cv,rfl,Ap,gC⟩:=Q6
   obtain ⟨ar,cr,rfl,-,-⟩:=Dp
   obtain ⟨ag,cg,rfl,-,-⟩:=Dq
   have XE:=al gC
   have LW:(0:Int)≤(i:Int):=zH _
   have i1:(i:Int)<(l.length:Int):=by omega
   have bu:=al aM
   have Xq:=al (ab Hz m cI)
   have Hr:=al hr
   have iJ:=al (ab HB).size
   clear hc cI yz dU gC aM hr
   go_upto_region 5 with fail
   go_cut [5] (fun v5 wx=>∃(b:Nat) (ur ug:Value),v5=.pointer (some ⟨b,0,none⟩)∧Hid (yI wo wx b (.slice none 0 0) ur ug m))
   case first =>
    refine wp_region_any (by kernel_rfl) (bK (z:=99) (T:=fun w'=>Below W.heap.size W w') _ _ _ _ ?_)
    try (change cc _ _ _ _ _ _ _ _ _ (World.drew _))
    have aS:Below W.heap.size W wo.drew:=below_drewN (ab gP) 1
    have bU:Below wo.heap.size wo wo.drew:=below_drewN (zE wo.heap.size wo) 1
    obtain ⟨wd,mY⟩:∃x,wo.drew=x:=⟨_,rfl⟩
    rw[mY] at aS bU ⊢
    have hT:=aS
    refine aw 0 (.slice (some ⟨g,o,none⟩) l.length c) 13 rfl rfl (Or.inl ⟨by rfl,fun w' hw=>by obtain ⟨x0,x1,x2,x3⟩:=ab dB w' hw;go_simp⟩) hT ?_
    simp only[Act.put,zL,zM,zN]
    refine aw 1 (.int .i64 (i:Int)) 14 rfl rfl (Or.inl ⟨by rfl,fun w' hw=>by obtain ⟨x0,x1,x2,x3⟩:=ab dB w' hw;go_simp⟩) hT ?_
    simp only[Act.put,zL,zM,zN]
    refine aw 2 (.pointer (some ⟨g,o+i*4,none⟩)) 15 rfl rfl (Or.inl ⟨by rfl,fun w' hw=>by obtain ⟨x0,x1,x2,x3⟩:=ab dB w' hw;go_simp⟩) hT ?_
    simp only[Act.put,zL,zM,zN]
    refine aw 3 (.pointer (some ⟨g,o+i*4,none⟩)) 16 rfl rfl (Or.inl ⟨by rfl,fun w' hw=>by obtain ⟨x0,x1,x2,x3⟩:=ab dB w' hw;go_simp⟩) hT ?_
    simp only[Act.put,zL,zM,zN]
    refine aw 4 (.string m.name) 17 rfl rfl (Or.inl ⟨by rfl,fun w' hw=>by obtain ⟨x0,x1,x2,x3⟩:=ab dB w' hw;go_simp⟩) hT ?_
    simp only[Act.put,zL,zM,zN]
    refine aw 5 (.slice (some ⟨g,o,none⟩) l.length c) 18 rfl rfl (Or.inl ⟨by rfl,fun w' hw=>by obtain ⟨x0,x1,x2,x3⟩:=ab dB w' hw;go_simp⟩) hT ?_
    simp only[Act.put,zL,zM,zN]
    refine aw 6 (.int .i64 (i:Int)) 19 rfl rfl (Or.inl ⟨by rfl,fun w' hw=>by obtain ⟨x0,x1,x2,x3⟩:=ab dB w' hw;go_simp⟩) hT ?_
    simp only[Act.put,zL,zM,zN]
    refine aw 7 (.pointer (some ⟨g,o+i*4,none⟩)) 20 rfl rfl (Or.inl ⟨by rfl,fun w' hw=>by obtain ⟨x0,x1,x2,x3⟩:=ab dB w' hw;go_simp⟩) hT ?_
    simp only[Act.put,zL,zM,zN]
    refine aw 8 (.pointer (some ⟨g,o+i*4+2,none⟩)) 21 rfl rfl (Or.inl ⟨by rfl,fun w' hw=>by obtain ⟨x0,x1,x2,x3⟩:=ab dB w' hw;go_simp⟩) hT ?_
    simp only[Act.put,zL,zM,zN]
    refine aw 9 (.slice ar m.res.length cr) 22 rfl rfl (Or.inl ⟨by rfl,fun w' hw=>by obtain ⟨x0,x1,x2,x3⟩:=ab dB w' hw;go_simp⟩) hT ?_
    simp only[Act.put,zL,zM,zN]
    refine aw 11 (.slice (some ⟨g,o,none⟩) l.length c) 24 rfl rfl (Or.inl ⟨by rfl,fun w' hw=>by obtain ⟨x0,x1,x2,x3⟩:=ab dB w' hw;go_simp⟩) hT ?_
    simp only[Act.put,zL,zM,zN]
    refine aw 12 (.int .i64 (i:Int)) 25 rfl rfl (Or.inl ⟨by rfl,fun w' hw=>by obtain ⟨x0,x1,x2,x3⟩:=ab dB w' hw;go_simp⟩) hT ?_
    simp only[Act.put,zL,zM,zN]
    refine aw 13 (.pointer (some ⟨g,o+i*4,none⟩)) 26 rfl rfl (Or.inl ⟨by rfl,fun w' hw=>by obtain ⟨x0,x1,x2,x3⟩:=ab dB w' hw;go_simp⟩) hT ?_
    simp only[Act.put,zL,zM,zN]
    refine aw 14 (.pointer (some ⟨g,o+i*4+3,none⟩)) 27 rfl rfl (Or.inl ⟨by rfl,fun w' hw=>by obtain ⟨x0,x1,x2,x3⟩:=ab dB w' hw;go_simp⟩) hT ?_
    simp only[Act.put,zL,zM,zN]
    refine aw 15 (.slice ag m.gone.length cg) 28 rfl rfl (Or.inl ⟨by rfl,fun w' hw=>by obtain ⟨x0,x1,x2,x3⟩:=ab dB w' hw;go_simp⟩) hT ?_
    simp only[Act.put,zL,zM,zN]
    clear hT
    refine eA 10 18 (by kernel_rfl) rfl rfl (fun K hK=>?_) (fun K hK=>?_)
    ·refine aO 23 rfl rfl 33 (fun vs=>by kernel_rfl) #[.tmp 22] #[44] rfl #[.slice ar m.res.length cr] (by first|rfl|simp[Act.eval]) (ab HR wd aS) ?_
     rintro e' yu ⟨u1,rfl,dP,aR⟩
     obtain ⟨FY,FX,rfl⟩:=bq dP
     have RB:wo.heap.size≤wd.heap.size:=bU.size
     have dP:=oc dP RB
     have bU:=bU.trans (aR.mono bU.size)
     have aS:=aS.trans (aR.mono aS.size)
     refine ⟨_,rfl,hK _ _ ⟨fun _=>aS,?_⟩⟩
     clear hK K aR RB
     simp only[Act.put,zL,zM,zN]
     refine eA 16 18 (by kernel_rfl) rfl rfl (fun K hK=>?_) (fun K hK=>?_)
     ·refine aO 29 rfl rfl 16 (fun vs=>by kernel_rfl) #[.tmp 28] #[22] rfl #[.slice ag m.gone.length cg] (by first|rfl|simp[Act.eval]) (ab HT yu aS) ?_
      rintro e' AY ⟨u2,rfl,gE,aR⟩
      have dP:=dJ dP aR
      obtain ⟨JV,JU,rfl⟩:=bq gE
      have KQ:wo.heap.size≤yu.heap.size:=bU.size
      have gE:=oc gE KQ
      have bU:=bU.trans (aR.mono bU.size)
      have aS:=aS.trans (aR.mono aS.size)
      refine ⟨_,rfl,hK _ _ ⟨fun _=>aS,?_⟩⟩
      clear hK K aR KQ
      simp only[Act.put,zL,zM,zN]
      have hT:=aS
      refine aw 17 (.agg #[.string m.name,.slice none 0 0,.slice FY (m.res.length) FX,.slice JV (m.gone.length) JU]) 30 rfl rfl (Or.inl ⟨by rfl,fun w' hw=>by go_simp⟩) hT ?_
      simp only[Act.put,zL,zM,zN]
      clear hT
      refine aF 18 (by kernel_rfl) rfl (fun K hK=>?_)
      obtain ⟨Bf,bM⟩:∃x,AY.alloc (.cells #[.string ⟨#[]⟩,.slice none 0 0,.slice none 0 0,.slice none 0 0] 67)=x:=⟨_,rfl⟩
      have aR:Below AY.heap.size AY Bf:=by rw[←bM];exact (zE _ _).alloc (zD _) _
      have bQ:Bf.heap[AY.heap.size]?=some (.cells #[.string ⟨#[]⟩,.slice none 0 0,.slice none 0 0,.slice none 0 0] 67 (0,0)):=by rw[←bM];exact aK _ _
      have dD:wo.heap.size≤AY.heap.size:=bU.size
      go_simp
      have dP:=dJ dP aR
      have gE:=dJ gE aR
      have bU:=bU.trans (aR.mono bU.size)
      have aS:=aS.trans (aR.mono aS.size)
      refine hK _ _ ⟨fun _=>aS,?_⟩
      clear hK K bM aR
      refine aF 19 (by kernel_rfl) rfl (fun K hK=>?_)
      obtain ⟨b,ey⟩:∃b,AY.heap.size=b:=⟨_,rfl⟩
      rw[ey] at bQ dD ⊢
      obtain ⟨c0,c1,c2,c3⟩:=Oc bQ
      have z:∀j,Bf.frozen? ⟨b,j,none⟩=false:=fun j=>by simp[World.frozen?,bQ]
      have z0:=z 0
      have z1:=z 1
      have z2:=z 2
      have z3:=z 3
      have hC:=yI.new (m:=m) bU dD bQ dP gE
      go_simp
      refine hK _ _ ⟨fun _=>(ab gP).trans (hC.bW.mono (ab gP).size),?_⟩
      clear hK K
      refine aZ (by kernel_rfl) ?_
      have HC:=al hC
      clear hC bU aS dD bQ z z0 z1 z2 z3 c0 c1 c2 c3 dP gE
      go_wp2_with fail
      go_meet
      exact ⟨b,_,_,rfl,HC⟩
     ·obtain ⟨Fz,bM⟩:∃x,yu.alloc (.cells #[.string ⟨#[]⟩,.slice none 0 0,.slice none 0 0,.slice none 0 0] 67)=x:=⟨_,rfl⟩
      have aR:Below yu.heap.size yu Fz:=by rw[←bM];exact (zE _ _).alloc (zD _) _
      have bQ:Fz.heap[yu.heap.size]?=some (.cells #[.string ⟨#[]⟩,.slice none 0 0,.slice none 0 0,.slice none 0 0] 67 (0,0)):=by rw[←bM];exact aK _ _
      have dD:wo.heap.size≤yu.heap.size:=bU.size
      go_simp
      have dP:=dJ dP aR
      have bU:=bU.trans (aR.mono bU.size)
      have aS:=aS.trans (aR.mono aS.size)
      refine hK _ _ ⟨fun _=>aS,?_⟩
      clear hK K bM aR
      refine aF 16 (by kernel_rfl) rfl (fun K hK=>?_)
      refine aO 29 rfl rfl 16 (fun vs=>by kernel_rfl) #[.tmp 28] #[22] rfl #[.slice ag m.gone.length cg] (by first|rfl|simp[Act.eval]) (ab HT Fz aS) ?_
      rintro e' LM ⟨u5,rfl,Dt,aR⟩
      have dP:=dJ dP aR
      obtain ⟨UP,Uw,rfl⟩:=bq Dt
      have PC:wo.heap.size≤Fz.heap.size:=bU.size
      have Dt:=oc Dt PC
      have bU:=bU.trans (aR.mono bU.size)
      have aS:=aS.trans (aR.mono aS.size)
      have bQ:=(aR.block _ (zA bQ).1).trans bQ
      refine ⟨_,rfl,hK _ _ ⟨fun _=>aS,?_⟩⟩
      clear hK K aR PC
      simp only[Act.put,zL,zM,zN]
      have hT:=aS
      refine aw 17 (.agg #[.string m.name,.slice none 0 0,.slice FY (m.res.length) FX,.slice UP (m.gone.length) Uw]) 30 rfl rfl (Or.inl ⟨by rfl,fun w' hw=>by go_simp⟩) hT ?_
      simp only[Act.put,zL,zM,zN]
      clear hT
      refine aF 19 (by kernel_rfl) rfl (fun K hK=>?_)
      obtain ⟨b,ey⟩:∃b,yu.heap.size=b:=⟨_,rfl⟩
      rw[ey] at bQ dD ⊢
      obtain ⟨c0,c1,c2,c3⟩:=Oc bQ
      have z:∀j,LM.frozen? ⟨b,j,none⟩=false:=fun j=>by simp[World.frozen?,bQ]
      have z0:=z 0
      have z1:=z 1
      have z2:=z 2
      have z3:=z 3
      have hC:=yI.new (m:=m) bU dD bQ dP Dt
      go_simp
      refine hK _ _ ⟨fun _=>(ab gP).trans (hC.bW.mono (ab gP).size),?_⟩
      clear hK K
      refine aZ (by kernel_rfl) ?_
      have HC:=al hC
      clear hC bU aS dD bQ z z0 z1 z2 z3 c0 c1 c2 c3 dP Dt
      go_wp2_with fail
      go_meet
      exact ⟨b,_,_,rfl,HC⟩
    ·obtain ⟨LL,bM⟩:∃x,wd.alloc (.cells #[.string ⟨#[]⟩,.slice none 0 0,.slice none 0 0,.slice none 0 0] 67)=x:=⟨_,rfl⟩
     have aR:Below wd.heap.size wd LL:=by rw[←bM];exact (zE _ _).alloc (zD _) _
     have bQ:LL.heap[wd.heap.size]?=some (.cells #[.string ⟨#[]⟩,.slice none 0 0,.slice none 0 0,.slice none 0 0] 67 (0,0)):=by rw[←bM];exact aK _ _
     have dD:wo.heap.size≤wd.heap.size:=bU.size
     go_simp
     have bU:=bU.trans (aR.mono bU.size)
     have aS:=aS.trans (aR.mono aS.size)
     refine hK _ _ ⟨fun _=>aS,?_⟩
     clear hK K bM aR
     refine aF 10 (by kernel_rfl) rfl (fun K hK=>?_)
     refine aO 23 rfl rfl 33 (fun vs=>by kernel_rfl) #[.tmp 22] #[44] rfl #[.slice ar m.res.length cr] (by first|rfl|simp[Act.eval]) (ab HR LL aS) ?_
     rintro e' MH ⟨u7,rfl,Ny,aR⟩
     obtain ⟨ua7,uc7,rfl⟩:=bq Ny
     have Zm:wo.heap.size≤LL.heap.size:=bU.size
     have Ny:=oc Ny Zm
     have bU:=bU.trans (aR.mono bU.size)
     have aS:=aS.trans (aR.mono aS.size)
     have bQ:=(aR.block _ (zA bQ).1).trans bQ
     refine ⟨_,rfl,hK _ _ ⟨fun _=>aS,?_⟩⟩
     clear hK K aR Zm
     simp only[Act.put,zL,zM,zN]
     refine aF 16 (by kernel_rfl) rfl (fun K hK=>?_)
     refine aO 29 rfl rfl 16 (fun vs=>by kernel_rfl) #[.tmp 28] #[22] rfl #[.slice ag m.gone.length cg] (by first|rfl|simp[Act.eval]) (ab HT MH aS) ?_
     rintro e' Ui ⟨u8,rfl,G6,aR⟩
     have Ny:=dJ Ny aR
     obtain ⟨UO,Uv,rfl⟩:=bq G6
     have Zl:wo.heap.size≤MH.heap.size:=bU.size
     have G6:=oc G6 Zl
     have bU:=bU.trans (aR.mono bU.size)
     have aS:=aS.trans (aR.mono aS.size)
     have bQ:=(aR.block _ (zA bQ).1).trans bQ
     refine ⟨_,rfl,hK _ _ ⟨fun _=>aS,?_⟩⟩
     clear hK K aR Zl
     simp only[Act.put,zL,zM,zN]
     have hT:=aS
     refine aw 17 (.agg #[.string m.name,.slice none 0 0,.slice ua7 (m.res.length) uc7,.slice UO (m.gone.length) Uv]) 30 rfl rfl (Or.inl ⟨by rfl,fun w' hw=>by go_simp⟩) hT ?_
     simp only[Act.put,zL,zM,zN]
     clear hT
     refine aF 19 (by kernel_rfl) rfl (fun K hK=>?_)
     obtain ⟨b,ey⟩:∃b,wd.heap.size=b:=⟨_,rfl⟩
     rw[ey] at bQ dD ⊢
     obtain ⟨c0,c1,c2,c3⟩:=Oc bQ
     have z:∀j,Ui.frozen? ⟨b,j,none⟩=false:=fun j=>by simp[World.frozen?,bQ]
     have z0:=z 0
     have z1:=z 1
     have z2:=z 2
     have z3:=z 3
     have hC:=yI.new (m:=m) bU dD bQ Ny G6
     go_simp
     refine hK _ _ ⟨fun _=>(ab gP).trans (hC.bW.mono (ab gP).size),?_⟩
     clear hK K
     refine aZ (by kernel_rfl) ?_
     have HC:=al hC
     clear hC bU aS dD bQ z z0 z1 z2 z3 c0 c1 c2 c3 Ny G6
     go_wp2_with fail
     go_meet
     exact ⟨b,_,_,rfl,HC⟩
   case rest =>
    obtain ⟨b,ur,ug,rfl,HC⟩:=hcut
    have HN:Hid (wc.ownsRow wo.heap.size 74 2 (.slice none 0 0) 0 []):=⟨rfl,.inl ⟨rfl,rfl⟩⟩
    obtain ⟨Ph,Pd,rfl⟩:=bq (ab HC).r
    obtain ⟨Pj,Pe,rfl⟩:=bq (ab HC).g
    obtain ⟨x0,x1,x2,x3⟩:=ab dB wc ((ab gP).trans ((ab HC).bW.mono (ab gP).size))
    go_wp2_with fail
    clear x0 x1 x2 x3
    go_loopg [6] m.aQ.length (fun gk v6 wi=>∃(k:Nat) (uv:Value),v6=.int .i64 (k:Int)∧gk=m.aQ.length-k∧k≤m.aQ.length∧Hid (yI wo wi b uv (.slice Ph m.res.length Pd) (.slice Pj m.gone.length Pe) m)∧Hid (wi.ownsRow wo.heap.size 74 2 uv k (qP (m.aQ.take k))))
    case atStart=>exact ⟨0,_,rfl,rfl,by omega,HC,HN⟩
    case round =>
     obtain ⟨k,uv,rfl,gF,lI,uT,lO⟩:=hrel
     have kq:=al gF
     clear gF HC HN
     obtain ⟨A2,A1,rfl⟩:=bq (ab lO)
     have Yf:=al (show Below W.heap.size W wr from (ab gP).trans ((ab uT).bW.mono (ab gP).size))
     obtain ⟨x0,x1,x2,x3⟩:=ab dB wr (ab Yf)
     by_cases fP:k<m.aQ.length
     ·obtain ⟨gv,ov,rfl,KS,lJ⟩:=ab XE (by omega)
      have oD:=List.getElem?_eq_getElem fP
      obtain ⟨y,Q4⟩:∃y,m.aQ[k]=y:=⟨_,rfl⟩
      rw[Q4] at oD
      have vN:Hid (∀w',Below W.heap.size W w'→w'.cell? ⟨gv,ov+k*2,none⟩=some (.string y.1)∧w'.cell? ⟨gv,ov+k*2+1,none⟩=some (.int .i64 y.2)):=fun w' hb =>
       ⟨(hb.cell (p:=⟨gv,ov+(k*2+0),none⟩) KS).trans (lJ _ _ (fG oD (j:=0) (by decide))),(hb.cell (p:=⟨gv,ov+(k*2+1),none⟩) KS).trans (lJ _ _ (fG oD (j:=1) (by decide)))⟩
      have th:=al (J3 oD)
      have YK:(0:Int)≤(k:Int):=zH _
      have sv:(k:Int)<(m.aQ.length:Int):=by omega
      have dZ:=al fP
      clear lJ oD Q4 fP
      go_upto_region 9 with fail
      refine wp_region_any (by kernel_rfl) (bK (z:=13) (T:=fun w'=>Below W.heap.size W w'∧w'.cell? ⟨b,1,none⟩=some (.slice A2 k A1)) _ _ _ _ ?_)
      try (change cc _ _ _ _ _ _ _ _ _ (World.drew _))
      have hC:=(ab uT).below (below_drewN (zE wr.heap.size wr) 1)
      have hO:=dJ (ab lO) (below_drewN (zE wr.heap.size wr) 1)
      change yI _ wr.drew _ _ _ _ _ at hC
      change World.ownsRow wr.drew _ _ _ _ _ _ at hO
      obtain ⟨wd,mY⟩:∃x,wr.drew=x:=⟨_,rfl⟩
      rw[mY] at hC hO ⊢
      have hT:(fun w':World=>Below W.heap.size W w'∧w'.cell? ⟨b,1,none⟩=some (.slice A2 k A1)) wd:=⟨(ab gP).trans (hC.bW.mono (ab gP).size),cell_of_row _ _ _ _ _ _ hC.dq⟩
      clear x0 x1 x2 x3
      refine aw 0 (.pointer (some ⟨b,1,none⟩)) 41 rfl rfl (Or.inl ⟨by rfl,fun w' hw=>by obtain ⟨fJ,vD⟩:=hw;obtain ⟨x0,x1,x2,x3⟩:=ab dB w' fJ;obtain ⟨y0,y1⟩:=ab vN w' fJ;go_simp⟩) hT ?_
      simp only[Act.put,zL,zM,zN]
      refine aw 1 (.slice A2 k A1) 42 rfl rfl (Or.inl ⟨by rfl,fun w' hw=>by obtain ⟨fJ,vD⟩:=hw;obtain ⟨x0,x1,x2,x3⟩:=ab dB w' fJ;obtain ⟨y0,y1⟩:=ab vN w' fJ;go_simp⟩) hT ?_
      simp only[Act.put,zL,zM,zN]
      refine aw 2 (.slice (some ⟨g,o,none⟩) l.length c) 43 rfl rfl (Or.inl ⟨by rfl,fun w' hw=>by obtain ⟨fJ,vD⟩:=hw;obtain ⟨x0,x1,x2,x3⟩:=ab dB w' fJ;obtain ⟨y0,y1⟩:=ab vN w' fJ;go_simp⟩) hT ?_
      simp only[Act.put,zL,zM,zN]
      refine aw 3 (.int .i64 (i:Int)) 44 rfl rfl (Or.inl ⟨by rfl,fun w' hw=>by obtain ⟨fJ,vD⟩:=hw;obtain ⟨x0,x1,x2,x3⟩:=ab dB w' fJ;obtain ⟨y0,y1⟩:=ab vN w' fJ;go_simp⟩) hT ?_
      simp only[Act.put,zL,zM,zN]
      refine aw 4 (.pointer (some ⟨g,o+i*4,none⟩)) 45 rfl rfl (Or.inl ⟨by rfl,fun w' hw=>by obtain ⟨fJ,vD⟩:=hw;obtain ⟨x0,x1,x2,x3⟩:=ab dB w' fJ;obtain ⟨y0,y1⟩:=ab vN w' fJ;go_simp⟩) hT ?_
      simp only[Act.put,zL,zM,zN]
      refine aw 5 (.pointer (some ⟨g,o+i*4+1,none⟩)) 46 rfl rfl (Or.inl ⟨by rfl,fun w' hw=>by obtain ⟨fJ,vD⟩:=hw;obtain ⟨x0,x1,x2,x3⟩:=ab dB w' fJ;obtain ⟨y0,y1⟩:=ab vN w' fJ;go_simp⟩) hT ?_
      simp only[Act.put,zL,zM,zN]
      refine aw 6 (.slice (some ⟨gv,ov,none⟩) m.aQ.length cv) 47 rfl rfl (Or.inl ⟨by rfl,fun w' hw=>by obtain ⟨fJ,vD⟩:=hw;obtain ⟨x0,x1,x2,x3⟩:=ab dB w' fJ;obtain ⟨y0,y1⟩:=ab vN w' fJ;go_simp⟩) hT ?_
      simp only[Act.put,zL,zM,zN]
      refine aw 7 (.int .i64 (k:Int)) 48 rfl rfl (Or.inl ⟨by rfl,fun w' hw=>by obtain ⟨fJ,vD⟩:=hw;obtain ⟨x0,x1,x2,x3⟩:=ab dB w' fJ;obtain ⟨y0,y1⟩:=ab vN w' fJ;go_simp⟩) hT ?_
      simp only[Act.put,zL,zM,zN]
      refine aw 8 (.pointer (some ⟨gv,ov+k*2,none⟩)) 49 rfl rfl (Or.inl ⟨by rfl,fun w' hw=>by obtain ⟨fJ,vD⟩:=hw;obtain ⟨x0,x1,x2,x3⟩:=ab dB w' fJ;obtain ⟨y0,y1⟩:=ab vN w' fJ;go_simp⟩) hT ?_
      simp only[Act.put,zL,zM,zN]
      refine aw 9 (.agg #[.string y.1,.int .i64 y.2]) 50 rfl rfl (Or.inl ⟨by rfl,fun w' hw=>by obtain ⟨fJ,vD⟩:=hw;obtain ⟨x0,x1,x2,x3⟩:=ab dB w' fJ;obtain ⟨y0,y1⟩:=ab vN w' fJ;go_simp⟩) hT ?_
      simp only[Act.put,zL,zM,zN]
      obtain ⟨wy,Jx⟩:∃x,wd.alloc (.cells #[.string y.1,.int .i64 y.2] 74)=x:=⟨_,rfl⟩
      have aR:Below wd.heap.size wd wy:=by rw[←Jx];exact (zE _ _).alloc (zD _) _
      have hC:=hC.below aR
      have hO:=dJ hO aR
      have hT:(fun w':World=>Below W.heap.size W w'∧w'.cell? ⟨b,1,none⟩=some (.slice A2 k A1)) wy:=⟨(ab gP).trans (hC.bW.mono (ab gP).size),cell_of_row _ _ _ _ _ _ hC.dq⟩
      have KN:∀j u,[Value.string y.1,.int .i64 y.2][j]?=some u→wy.cell? ((⟨wd.heap.size,0,none⟩:Addr).add j)=some u:=by rw[←Jx];exact wX _ _ _ _
      refine aF 10 (by kernel_rfl) rfl (fun K hK=>?_)
      go_simp
      refine hK _ _ ⟨fun _=>hT,?_⟩
      clear hK K Jx aR mY
      refine aF 11 (by kernel_rfl) rfl (fun K hK=>?_)
      refine kX 52 rfl rfl (.tmp 42) (.tmp 51) 65 rfl wo.heap.size 74 j0 (.agg #[.string ByteArray.empty,.int .i64 0]) 2 24 Tryz.underlying65 hj Vl Vk Vj rfl (by decide) (.slice A2 k A1) k _ (by first|rfl|simp[Act.eval]) hO ⟨wd.heap.size,0,none⟩ 1 1 [.string y.1,.int .i64 y.2] (by first|rfl|simp[Act.eval]) rfl KN (by simp[Value.oneCell']) (by have:=ab dZ;have:=(ab Xq).1;unfold maxLen;omega) (by have:=ab dZ;have:=(ab Xq).1;omega) hC.bW.size ?_
      intro v' w2 ho ei _
      have Dz:=hC.B0 ei (fun j e=>(hO.lt j e).1) (dQ hO hC.dq (by decide)) (Dg hO hC.r (by decide)) (Dg hO hC.g (by decide))
      obtain ⟨a',c',rfl⟩:=bq ho
      have FH:(fun w':World=>Below W.heap.size W w'∧w'.cell? ⟨b,1,none⟩=some (.slice A2 k A1)) w2:=⟨(ab gP).trans (Dz.bW.mono (ab gP).size),cell_of_row _ _ _ _ _ _ Dz.dq⟩
      rw[←ab th] at ho
      refine hK _ _ ⟨fun _=>FH,?_⟩
      clear hK K hC hO hT ei KN
      simp only[Act.put,zL,zM,zN]
      refine aw 12 (.pointer (some ⟨b,1,none⟩)) 53 rfl rfl (Or.inl ⟨by rfl,fun w' hw=>by obtain ⟨fJ,vD⟩:=hw;go_simp⟩) FH ?_
      simp only[Act.put,zL,zM,zN]
      have PJ:=FH.2
      have NN:w2.frozen? ⟨b,1,none⟩=false:=by simp[World.frozen?,Dz.dq]
      obtain ⟨Sa,RJ⟩:=Dz.val (.slice a' (k+1) c')
      have R7:=ho.kept RJ (.inr (dQ ho Dz.dq (by decide)))
      refine aF 13 (by kernel_rfl) rfl (fun K hK=>?_)
      go_simp
      refine hK _ _ ⟨fun h=>absurd rfl h,?_⟩
      have Ye:=al Sa
      have XV:=al R7
      clear hK K PJ NN FH ho Dz Sa R7 RJ
      refine aZ (by kernel_rfl) ?_
      go_wp2
      go_roundg (m.aQ.length-(k+1))
      case measure=>have:=ab kq;have:=ab dZ;omega
      case rel=>exact ⟨k+1,_,by go_num,rfl,ab dZ,Ye,XV⟩
     ·obtain rfl:k=m.aQ.length:=by omega
      have hO:=ab lO
      rw[List.take_length] at hO
      have XU:=al hO
      clear hO lO
      obtain ⟨c0,c1,c2,c3⟩:=Oc (ab uT).dq
      have sv:¬(m.aQ.length:Int)<(m.aQ.length:Int):=by omega
      have iJ:=al (show w0.heap.size≤wr.heap.size from Nat.le_trans (ab HB).size (ab uT).bW.size)
      have XT:=al ((ab HO).kept (show wo.grownBy wr none from ⟨(ab uT).bW.os,(ab uT).bW.tape,(ab uT).bW.output,(ab uT).bW.size,fun q hq _=>(ab uT).bW.block q hq⟩) (by cases u3.ownBlock with|none=>exact .inl rfl|some q=>exact .inr (by simp)))
      have vk:=al ((ab HB).trans ((ab uT).bW.mono (ab HB).size))
      obtain ⟨ao,co,rfl⟩:=bq (ab HO)
      go_wp2_with (at_builtin;refine wpList_append_own_at _ rfl _ _ 24 rfl w0.heap.size 67 i0 (.agg #[.string ByteArray.empty,.slice none 0 0,.slice none 0 0,.slice none 0 0]) 4 88 Tryz.underlying24 hi gj dR c7 rfl (by decide) _ _ _ rfl ((ab XT).alloc _) ⟨wr.heap.size,0,none⟩ 1 1 [.string m.name,.slice A2 m.aQ.length A1,.slice Ph m.res.length Pd,.slice Pj m.gone.length Pe] rfl rfl (pO _ _ _) (by simp[Value.oneCell']) (by have:=ab bu;unfold maxLen;omega) (by have:=ab bu;have:=ab Hl;omega) (by rw[zJ];have:=ab iJ;omega) ?_;intro v' w2 ho ei _ ef;have XS:=al ho;have Yb:=al (Kk (ab HO) (ab Tb) (ab uT) (ab XU) (ab Xq) (ab HB).size (ab Hr) ((zE _ _).alloc (zD _) _) ei ef);have JO:=al (((ab vk).alloc (ab vk).size _).grown ei (by rw[zJ];have:=ab iJ;omega) (fun q e=>((ab HO).lt q e).1));clear ho ei ef)
      go_roundg (l.length-(i+1))
      case measure=>have:=ab bz;have:=ab bu;omega
      case rel=>exact ⟨i+1,_,by go_num,rfl,ab bu,XS,Yb,JO⟩
  ·obtain rfl:i=l.length:=by omega
   have hE:=ab Tb
   rw[List.take_length] at hE
   have Qh:=al hE
   clear hE
   go_wp2
   go_ret
   exact ⟨_,_,rfl,ab HO,ab Qh,ab HB⟩
end Go.Proofs.YtichhjfjcinjgaaGreatDoor

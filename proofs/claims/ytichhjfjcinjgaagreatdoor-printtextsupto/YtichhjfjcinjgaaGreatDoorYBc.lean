import Derived.Test.YtichhjfjcinjgaaGreatDoorM26
set_option maxHeartbeats 4000000
set_option maxRecDepth 100000
namespace Go.Proofs.YtichhjfjcinjgaaGreatDoor
open Go.RowKit
attribute [local go_sem ↓] Go.wp_at_zero Go.wp_at_succ
theorem NO:(Tryz.prog.info? 74).map (fun i=>(i.zero,i.size,i.bytes))=some (some (.agg #[.string ByteArray.empty,.int .i64 0]),2,24):=by kernel_rfl
theorem NP:(Tryz.prog.info? 67).map (fun i=>(i.zero,i.size,i.bytes))=some (some (.agg #[.string ByteArray.empty,.slice none 0 0,.slice none 0 0,.slice none 0 0]),4,88):=by kernel_rfl
theorem KF {l:List (ByteArray×Int)}{i:Nat}{x:ByteArray×Int} (h:l[i]?=some x):rn (l.take (i+1))=rn (l.take i)++[.string x.1,.int .i64 x.2]:=by
 rw[bM h]
 unfold rn
 rw[List.flatMap_append]
 simp
def Kd (e:En):Prop:=e.aR.length*24≤140737488355328∧e.res.length*16≤140737488355328∧e.gone.length*16≤140737488355328
def Rest (B:Nat) (v:Value) (g:Nat):Prop:=B≤g∧v.ownBlock≠some g
theorem eC {P:Program}{md:Region.Mode}{ops:Array Oper}{Q:Exit→Act→World→Prop}{T:World→Prop}{z:Nat} (i j:Nat) {oi oj:Oper}{n:Nat}{d:Array Bool}{a:Act}{w:World} (hr:Region.ready md ops d=[i,j]) (hi:ops[i]?=some oi) (hj:ops[j]?=some oj)
  (h1:∀K:Act→World→Prop,(∀a' w',((i≠z→T w')∧cd P md ops Q T z n (d.setIfInBounds i true) a' w')→K a' w')→if Region.wanted oi (yielded ops a.tmps)=true then Oper.wp P oi a w K Q else K (a.put oi.dst undef) w)
  (h2:∀K:Act→World→Prop,(∀a' w',((j≠z→T w')∧cd P md ops Q T z n (d.setIfInBounds j true) a' w')→K a' w')→if Region.wanted oj (yielded ops a.tmps)=true then Oper.wp P oj a w K Q else K (a.put oj.dst undef) w):cd P md ops Q T z (n+1) d a w:=by
 refine ⟨fun h0=>(by rw[h0] at hr;cases hr),fun k hk=>?_⟩
 rw[hr] at hk
 rcases (by simpa using hk:k=i∨k=j) with rfl|rfl
 ·exact wpOp_step hi h1
 ·exact wpOp_step hj h2
theorem oL {B B':Nat}{w:World}{e size n:Nat}{v:Value}{xs:List Value} (h:w.ownsRow B e size v n xs) (hb:B'≤B):w.ownsRow B' e size v n xs:=by
 obtain ⟨h1,h|⟨g,cap,cur,rfl,h2,h3⟩⟩:=h
 ·exact ⟨h1,.inl h⟩
 ·exact ⟨h1,.inr ⟨g,cap,cur,rfl,Nat.le_trans hb h2,h3⟩⟩
theorem bq {B:Nat}{w:World}{e size n:Nat}{v:Value}{xs:List Value} (h:w.ownsRow B e size v n xs):∃a c,v=.slice a n c:=by
 obtain ⟨h1,⟨rfl,rfl⟩|⟨g,cap,cur,rfl,h2,h3⟩⟩:=h
 ·exact ⟨_,_,rfl⟩
 ·exact ⟨_,_,rfl⟩
structure zk (wr w:World) (b:Nat) (uv ur ug:Value) (m:En):Prop where
 bU:Below wr.heap.size wr w
 low:wr.heap.size≤b
 dt:w.heap[b]?=some (.cells #[.string m.name,uv,ur,ug] 67 (0,0))
 r:w.ownsRow wr.heap.size 111 2 ur m.res.length (lj m.res)
 g:w.ownsRow wr.heap.size 9 1 ug m.gone.length (cc m.gone)
theorem dR {B:Nat}{w:World}{e size n b t:Nat}{v:Value}{xs:List Value}{cs:Array Value}{fr:Nat×Nat} (h:w.ownsRow B e size v n xs) (hb:w.heap[b]?=some (.cells cs t fr)) (ht:e≠t):v.ownBlock≠some b:=by
 intro hv
 obtain ⟨h1,⟨rfl,_⟩|⟨g,cap,cur,rfl,_,h4,_⟩⟩:=h
 ·cases hv
 ·obtain rfl:g=b:=by simpa[Value.ownBlock] using hv
  rw[h4] at hb
  simp at hb
  exact ht hb.2.1
theorem DH {B B':Nat}{w:World}{e e' size Q' n n':Nat}{v u:Value}{xs ys:List Value} (h:w.ownsRow B e size v n xs) (k:w.ownsRow B' e' Q' u n' ys) (ht:e≠e'):u.ownBlock=none∨u.ownBlock≠v.ownBlock:=by
 cases hu:u.ownBlock with
 |none=>exact .inl rfl
 |some q =>
  obtain ⟨k1,⟨rfl,_⟩|⟨g,cap,cur,rfl,_,h4,_⟩⟩:=k
  ·cases hu
  ·obtain rfl:g=q:=by simpa[Value.ownBlock] using hu
   exact .inr (fun e=>dR h h4 ht e.symm)
theorem zk.Cp {wr w w':World}{b:Nat}{uv ur ug:Value}{m:En} (h:zk wr w b uv ur ug m) {k:Option Nat} (hg:w.grownBy w' k) (h1:∀j,k=some j→wr.heap.size≤j) (h2:k≠some b) (h3:ur.ownBlock=none∨ur.ownBlock≠k) (h4:ug.ownBlock=none∨ug.ownBlock≠k):zk wr w' b uv ur ug m :=
 ⟨h.bU.grown hg h.bU.size h1,h.low,(hg.block _ (zA h.dt).1 (fun e=>h2 e.symm)).trans h.dt,h.r.kept hg h3,h.g.kept hg h4⟩
theorem zk.below {wr w w':World}{b:Nat}{uv ur ug:Value}{m:En} (h:zk wr w b uv ur ug m) (hb:Below w.heap.size w w'):zk wr w' b uv ur ug m :=
 ⟨h.bU.trans (hb.mono h.bU.size),h.low,(hb.block _ (zA h.dt).1).trans h.dt,dL h.r hb,dL h.g hb⟩
theorem zk.new {wr w:World}{b:Nat}{ur ug x0 x1 x2 x3:Value}{m:En} (hb:Below wr.heap.size wr w) (dF:wr.heap.size≤b) (hk:w.heap[b]?=some (.cells #[x0,x1,x2,x3] 67 (0,0))) (hr:w.ownsRow wr.heap.size 111 2 ur m.res.length (lj m.res)) (hg:w.ownsRow wr.heap.size 9 1 ug m.gone.length (cc m.gone)) :
  zk wr ((((w.setCell ⟨b,0,none⟩ (.string m.name)).setCell ⟨b,1,none⟩ (.slice none 0 0)).setCell ⟨b,2,none⟩ ur).setCell ⟨b,3,none⟩ ug) b (.slice none 0 0) ur ug m:=by
 obtain ⟨a1,a2⟩:=bh (j:=0) hk (.string m.name)
 obtain ⟨b1,b2⟩:=bh (j:=1) a1 (.slice none 0 0)
 obtain ⟨c1,c2⟩:=bh (j:=2) b1 ur
 obtain ⟨d1,d2⟩:=bh (j:=3) c1 ug
 have nL:=((a2.trans b2).trans c2).trans d2
 exact ⟨hb.grown nL hb.size (fun k e=>by obtain rfl:=zC e;exact dF),dF,d1,hr.kept nL (.inr (dR hr hk (by decide))),hg.kept nL (.inr (dR hg hk (by decide)))⟩
theorem zk.val {wr w:World}{b:Nat}{uv ur ug:Value}{m:En} (h:zk wr w b uv ur ug m) (u:Value):zk wr (w.setCell ⟨b,1,none⟩ u) b u ur ug m∧w.grownBy (w.setCell ⟨b,1,none⟩ u) (some b):=by
 obtain ⟨a1,a2⟩:=bh (j:=1) h.dt u
 exact ⟨⟨h.bU.grown a2 h.bU.size (fun k e=>by obtain rfl:=zC e;exact h.low),h.low,a1,h.r.kept a2 (.inr (dR h.r h.dt (by decide))),h.g.kept a2 (.inr (dR h.g h.dt (by decide)))⟩,a2⟩
theorem KT {w0 wo wr wy w2:World}{v3 v' uv ur ug:Value}{iU:List Value}{l:List En}{i b:Nat}{m:En} (hO:wo.ownsRow w0.heap.size 67 4 v3 i iU) (hE:pJ (Rest w0.heap.size v3) wo iU (l.take i)) (hC:zk wo wr b uv ur ug m) (hV:wr.ownsRow wo.heap.size 74 2 uv m.aR.length (rn m.aR)) (hm:Kd m) (hB:w0.heap.size≤wo.heap.size) (hr:l[i]?=some m)
  (hy:Below wr.heap.size wr wy) (hg:wy.grownBy w2 v3.ownBlock) (ei:v'.ownBlock=v3.ownBlock∨v'.ownBlock=some wy.heap.size):pJ (Rest w0.heap.size v') w2 (iU++[.string m.name,uv,ur,ug]) (l.take (i+1)):=by
 obtain ⟨N0,P3,hm3⟩:=hm
 have yo:=hC.bU.size
 have gD:=hy.size
 rw[bM hr]
 refine (hE.mono (R':=Rest w0.heap.size v') (fun g dO hl=>?_)).app (.cons ((cB hV (by omega)).mono ?_) ((cB hC.r (by omega)).mono ?_) ((cB hC.g (by omega)).mono ?_) .nil)
 ·refine ⟨((hg.block g (by omega) (fun e=>dO.2 e.symm)).trans (hy.block g (by omega))).trans (hC.bU.block g hl),dO.1,?_⟩
  rcases ei with e|e
  ·rw[e];exact dO.2
  ·rw[e];intro q;obtain rfl:=zC q;omega
 all_goals
  intro g dO hl
  have iP:v3.ownBlock≠some g:=fun e=>by have:=(hO.lt g e).2;omega
  refine ⟨(hg.block g (by omega) (fun e=>iP e.symm)).trans (hy.block g (by omega)),by omega,?_⟩
  rcases ei with e|e
  ·rw[e];exact iP
  ·rw[e];intro q;obtain rfl:=zC q;omega
theorem qi (w:World) (xs:List Value) (t:TypeId):∀j u,xs[j]?=some u→(w.alloc (.cells xs.toArray t)).cell? ((⟨w.heap.size,0,none⟩:Addr).add j)=some u:=by
 intro j u h
 have e:(w.alloc (.cells xs.toArray t)).cell? ⟨w.heap.size,j,none⟩=some u:=by
  rw[cell_of_row _ _ _ _ _ _ (aJ w _)]
  simpa using h
 by_cases hj:j=0<;>simpa[Addr.add,hj] using e
theorem xv {W:World}{v:Value}{l:List En}{cs:List Value} (hv:Rl W v l.length cs) (he:vO W cs l) (hl:l.length*88≤140737488355328) (hz:∀e ∈ l,Kd e) (w0:World) (hw:Below W.heap.size W w0) :
  Calls Tryz.prog 18 #[v] w0 fun e w=>∃u iU,e=.returned u∧w.ownsRow w0.heap.size 67 4 u l.length iU∧pJ (Rest w0.heap.size u) w iU l∧Below w0.heap.size w0 w:=by
 obtain ⟨a,c,rfl,hn,h2⟩:=hv
 obtain ⟨i0,hi,fU,dS,da⟩:=info_parts NP
 obtain ⟨j0,hj,VP,VO,VM⟩:=info_parts NO
 have H2:=al h2
 have HW:=al hw
 have Hl:=al hl
 have X9:=al he
 have Hz:=al hz
 clear h2 hw hl he hz
 go_enter Tryz.func18,Tryz.ntmps18
 go_wp2
 go_loopg [3,4,5,6] l.length (fun gk v3 v4 _ _ wr=>∃(i:Nat) (iU:List Value),v4=.int .i64 (i:Int)∧gk=l.length-i∧i≤l.length∧Hid (wr.ownsRow w0.heap.size 67 4 v3 i iU)∧Hid (pJ (Rest w0.heap.size v3) wr iU (l.take i))∧Hid (Below w0.heap.size w0 wr))
 case atStart=>exact ⟨0,[],rfl,rfl,by omega,⟨rfl,.inl ⟨rfl,rfl⟩⟩,.nil,zE _ _⟩
 case round =>
  obtain ⟨i,iU,rfl,aW,eV,HO,TB,HB⟩:=hrel
  have bz:=al aW
  clear aW
  obtain ⟨wo,iI⟩:∃x,x=wr:=⟨_,rfl⟩
  subst iI
  by_cases aM:i<l.length
  ·obtain ⟨g,o,rfl,hg,hc⟩:=ab H2 (by omega)
   have hr:=List.getElem?_eq_getElem aM
   have cJ:=List.getElem_mem aM
   obtain ⟨m,y'⟩:∃m,l[i]=m:=⟨_,rfl⟩
   rw[y'] at hr cJ
   obtain ⟨vv,vr,vg,dV,Rv,DQ,DR⟩:=(ab X9).at i m hr
   have gV:=al (show Below W.heap.size W wo from (ab HW).trans ((ab HB).mono (ab HW).size))
   have dD:Hid (∀w',Below W.heap.size W w'→w'.cell? ⟨g,o+i*4,none⟩=some (.string m.name)∧w'.cell? ⟨g,o+i*4+1,none⟩=some vv∧w'.cell? ⟨g,o+i*4+2,none⟩=some vr∧w'.cell? ⟨g,o+i*4+3,none⟩=some vg):=by
    intro w' hb
    have key:∀(j:Nat) (x:Value),[Value.string m.name,vv,vr,vg][j]?=some x→w'.cell? ⟨g,o+(i*4+j),none⟩=some x:=fun j x hx=>(hb.cell (p:=⟨g,o+(i*4+j),none⟩) hg).trans (hc _ _ (by
     rw[←dV,List.getElem?_take,List.getElem?_drop] at hx
     split at hx
     ·exact hx
     ·cases hx))
    exact ⟨key 0 _ rfl,key 1 _ rfl,key 2 _ rfl,key 3 _ rfl⟩
   have HR:=al (fun w' hb=>uw DQ (ab Hz m cJ).2.1 w' hb)
   have HT:=al (fun w' hb=>mL DR (ab Hz m cJ).2.2 w' hb)
   obtain ⟨av,cv,rfl,AR,cT⟩:=Rv
   obtain ⟨ar,cr,rfl,-,-⟩:=DQ
   obtain ⟨ag,cg,rfl,-,-⟩:=DR
   have Yd:=al cT
   have Mr:(0:Int)≤(i:Int):=zH _
   have i1:(i:Int)<(l.length:Int):=by omega
   have bu:=al aM
   have XU:=al (ab Hz m cJ)
   have Hr:=al hr
   have iQ:=al (ab HB).size
   clear hc cJ y' dV cT aM hr
   go_upto_region 5 with fail
   go_cut [5] (fun v5 wx=>∃(b:Nat) (ur ug:Value),v5=.pointer (some ⟨b,0,none⟩)∧Hid (zk wo wx b (.slice none 0 0) ur ug m))
   case first =>
    refine wp_region_any (by kernel_rfl) (bL (z:=99) (T:=fun w'=>Below W.heap.size W w') _ _ _ _ ?_)
    try (change cd _ _ _ _ _ _ _ _ _ (World.drew _))
    have aT:Below W.heap.size W wo.drew:=below_drewN (ab gV) 1
    have bW:Below wo.heap.size wo wo.drew:=below_drewN (zE wo.heap.size wo) 1
    obtain ⟨wd,nD⟩:∃x,wo.drew=x:=⟨_,rfl⟩
    rw[nD] at aT bW ⊢
    have hT:=aT
    refine aw 0 (.slice (some ⟨g,o,none⟩) l.length c) 13 rfl rfl (Or.inl ⟨by rfl,fun w' hw=>by obtain ⟨x0,x1,x2,x3⟩:=ab dD w' hw;go_simp⟩) hT ?_
    simp only[Act.put,zL,zM,zN]
    refine aw 1 (.int .i64 (i:Int)) 14 rfl rfl (Or.inl ⟨by rfl,fun w' hw=>by obtain ⟨x0,x1,x2,x3⟩:=ab dD w' hw;go_simp⟩) hT ?_
    simp only[Act.put,zL,zM,zN]
    refine aw 2 (.pointer (some ⟨g,o+i*4,none⟩)) 15 rfl rfl (Or.inl ⟨by rfl,fun w' hw=>by obtain ⟨x0,x1,x2,x3⟩:=ab dD w' hw;go_simp⟩) hT ?_
    simp only[Act.put,zL,zM,zN]
    refine aw 3 (.pointer (some ⟨g,o+i*4,none⟩)) 16 rfl rfl (Or.inl ⟨by rfl,fun w' hw=>by obtain ⟨x0,x1,x2,x3⟩:=ab dD w' hw;go_simp⟩) hT ?_
    simp only[Act.put,zL,zM,zN]
    refine aw 4 (.string m.name) 17 rfl rfl (Or.inl ⟨by rfl,fun w' hw=>by obtain ⟨x0,x1,x2,x3⟩:=ab dD w' hw;go_simp⟩) hT ?_
    simp only[Act.put,zL,zM,zN]
    refine aw 5 (.slice (some ⟨g,o,none⟩) l.length c) 18 rfl rfl (Or.inl ⟨by rfl,fun w' hw=>by obtain ⟨x0,x1,x2,x3⟩:=ab dD w' hw;go_simp⟩) hT ?_
    simp only[Act.put,zL,zM,zN]
    refine aw 6 (.int .i64 (i:Int)) 19 rfl rfl (Or.inl ⟨by rfl,fun w' hw=>by obtain ⟨x0,x1,x2,x3⟩:=ab dD w' hw;go_simp⟩) hT ?_
    simp only[Act.put,zL,zM,zN]
    refine aw 7 (.pointer (some ⟨g,o+i*4,none⟩)) 20 rfl rfl (Or.inl ⟨by rfl,fun w' hw=>by obtain ⟨x0,x1,x2,x3⟩:=ab dD w' hw;go_simp⟩) hT ?_
    simp only[Act.put,zL,zM,zN]
    refine aw 8 (.pointer (some ⟨g,o+i*4+2,none⟩)) 21 rfl rfl (Or.inl ⟨by rfl,fun w' hw=>by obtain ⟨x0,x1,x2,x3⟩:=ab dD w' hw;go_simp⟩) hT ?_
    simp only[Act.put,zL,zM,zN]
    refine aw 9 (.slice ar m.res.length cr) 22 rfl rfl (Or.inl ⟨by rfl,fun w' hw=>by obtain ⟨x0,x1,x2,x3⟩:=ab dD w' hw;go_simp⟩) hT ?_
    simp only[Act.put,zL,zM,zN]
    refine aw 11 (.slice (some ⟨g,o,none⟩) l.length c) 24 rfl rfl (Or.inl ⟨by rfl,fun w' hw=>by obtain ⟨x0,x1,x2,x3⟩:=ab dD w' hw;go_simp⟩) hT ?_
    simp only[Act.put,zL,zM,zN]
    refine aw 12 (.int .i64 (i:Int)) 25 rfl rfl (Or.inl ⟨by rfl,fun w' hw=>by obtain ⟨x0,x1,x2,x3⟩:=ab dD w' hw;go_simp⟩) hT ?_
    simp only[Act.put,zL,zM,zN]
    refine aw 13 (.pointer (some ⟨g,o+i*4,none⟩)) 26 rfl rfl (Or.inl ⟨by rfl,fun w' hw=>by obtain ⟨x0,x1,x2,x3⟩:=ab dD w' hw;go_simp⟩) hT ?_
    simp only[Act.put,zL,zM,zN]
    refine aw 14 (.pointer (some ⟨g,o+i*4+3,none⟩)) 27 rfl rfl (Or.inl ⟨by rfl,fun w' hw=>by obtain ⟨x0,x1,x2,x3⟩:=ab dD w' hw;go_simp⟩) hT ?_
    simp only[Act.put,zL,zM,zN]
    refine aw 15 (.slice ag m.gone.length cg) 28 rfl rfl (Or.inl ⟨by rfl,fun w' hw=>by obtain ⟨x0,x1,x2,x3⟩:=ab dD w' hw;go_simp⟩) hT ?_
    simp only[Act.put,zL,zM,zN]
    clear hT
    refine eC 10 18 (by kernel_rfl) rfl rfl (fun K hK=>?_) (fun K hK=>?_)
    ·refine aO 23 rfl rfl 33 (fun vs=>by kernel_rfl) #[.tmp 22] #[44] rfl #[.slice ar m.res.length cr] (by first|rfl|simp[Act.eval]) (ab HR wd aT) ?_
     rintro e' yX ⟨u1,rfl,dQ,aS⟩
     obtain ⟨Gu,Gt,rfl⟩:=bq dQ
     have R5:wo.heap.size≤wd.heap.size:=bW.size
     have dQ:=oL dQ R5
     have bW:=bW.trans (aS.mono bW.size)
     have aT:=aT.trans (aS.mono aT.size)
     refine ⟨_,rfl,hK _ _ ⟨fun _=>aT,?_⟩⟩
     clear hK K aS R5
     simp only[Act.put,zL,zM,zN]
     refine eC 16 18 (by kernel_rfl) rfl rfl (fun K hK=>?_) (fun K hK=>?_)
     ·refine aO 29 rfl rfl 16 (fun vs=>by kernel_rfl) #[.tmp 28] #[22] rfl #[.slice ag m.gone.length cg] (by first|rfl|simp[Act.eval]) (ab HT yX aT) ?_
      rintro e' Bn ⟨u2,rfl,gK,aS⟩
      have dQ:=dL dQ aS
      obtain ⟨Kx,Kw,rfl⟩:=bq gK
      have Ln:wo.heap.size≤yX.heap.size:=bW.size
      have gK:=oL gK Ln
      have bW:=bW.trans (aS.mono bW.size)
      have aT:=aT.trans (aS.mono aT.size)
      refine ⟨_,rfl,hK _ _ ⟨fun _=>aT,?_⟩⟩
      clear hK K aS Ln
      simp only[Act.put,zL,zM,zN]
      have hT:=aT
      refine aw 17 (.agg #[.string m.name,.slice none 0 0,.slice Gu (m.res.length) Gt,.slice Kx (m.gone.length) Kw]) 30 rfl rfl (Or.inl ⟨by rfl,fun w' hw=>by go_simp⟩) hT ?_
      simp only[Act.put,zL,zM,zN]
      clear hT
      refine aF 18 (by kernel_rfl) rfl (fun K hK=>?_)
      obtain ⟨BF,bN⟩:∃x,Bn.alloc (.cells #[.string ⟨#[]⟩,.slice none 0 0,.slice none 0 0,.slice none 0 0] 67)=x:=⟨_,rfl⟩
      have aS:Below Bn.heap.size Bn BF:=by rw[←bN];exact (zE _ _).alloc (zD _) _
      have bR:BF.heap[Bn.heap.size]?=some (.cells #[.string ⟨#[]⟩,.slice none 0 0,.slice none 0 0,.slice none 0 0] 67 (0,0)):=by rw[←bN];exact aJ _ _
      have dF:wo.heap.size≤Bn.heap.size:=bW.size
      go_simp
      have dQ:=dL dQ aS
      have gK:=dL gK aS
      have bW:=bW.trans (aS.mono bW.size)
      have aT:=aT.trans (aS.mono aT.size)
      refine hK _ _ ⟨fun _=>aT,?_⟩
      clear hK K bN aS
      refine aF 19 (by kernel_rfl) rfl (fun K hK=>?_)
      obtain ⟨b,eA⟩:∃b,Bn.heap.size=b:=⟨_,rfl⟩
      rw[eA] at bR dF ⊢
      obtain ⟨c0,c1,c2,c3⟩:=OG bR
      have z:∀j,BF.frozen? ⟨b,j,none⟩=false:=fun j=>by simp[World.frozen?,bR]
      have z0:=z 0
      have z1:=z 1
      have z2:=z 2
      have z3:=z 3
      have hC:=zk.new (m:=m) bW dF bR dQ gK
      go_simp
      refine hK _ _ ⟨fun _=>(ab gV).trans (hC.bU.mono (ab gV).size),?_⟩
      clear hK K
      refine a8 (by kernel_rfl) ?_
      have HC:=al hC
      clear hC bW aT dF bR z z0 z1 z2 z3 c0 c1 c2 c3 dQ gK
      go_wp2_with fail
      go_meet
      exact ⟨b,_,_,rfl,HC⟩
     ·obtain ⟨F6,bN⟩:∃x,yX.alloc (.cells #[.string ⟨#[]⟩,.slice none 0 0,.slice none 0 0,.slice none 0 0] 67)=x:=⟨_,rfl⟩
      have aS:Below yX.heap.size yX F6:=by rw[←bN];exact (zE _ _).alloc (zD _) _
      have bR:F6.heap[yX.heap.size]?=some (.cells #[.string ⟨#[]⟩,.slice none 0 0,.slice none 0 0,.slice none 0 0] 67 (0,0)):=by rw[←bN];exact aJ _ _
      have dF:wo.heap.size≤yX.heap.size:=bW.size
      go_simp
      have dQ:=dL dQ aS
      have bW:=bW.trans (aS.mono bW.size)
      have aT:=aT.trans (aS.mono aT.size)
      refine hK _ _ ⟨fun _=>aT,?_⟩
      clear hK K bN aS
      refine aF 16 (by kernel_rfl) rfl (fun K hK=>?_)
      refine aO 29 rfl rfl 16 (fun vs=>by kernel_rfl) #[.tmp 28] #[22] rfl #[.slice ag m.gone.length cg] (by first|rfl|simp[Act.eval]) (ab HT F6 aT) ?_
      rintro e' Mg ⟨u5,rfl,DU,aS⟩
      have dQ:=dL dQ aS
      obtain ⟨Vi,U0,rfl⟩:=bq DU
      have P4:wo.heap.size≤F6.heap.size:=bW.size
      have DU:=oL DU P4
      have bW:=bW.trans (aS.mono bW.size)
      have aT:=aT.trans (aS.mono aT.size)
      have bR:=(aS.block _ (zA bR).1).trans bR
      refine ⟨_,rfl,hK _ _ ⟨fun _=>aT,?_⟩⟩
      clear hK K aS P4
      simp only[Act.put,zL,zM,zN]
      have hT:=aT
      refine aw 17 (.agg #[.string m.name,.slice none 0 0,.slice Gu (m.res.length) Gt,.slice Vi (m.gone.length) U0]) 30 rfl rfl (Or.inl ⟨by rfl,fun w' hw=>by go_simp⟩) hT ?_
      simp only[Act.put,zL,zM,zN]
      clear hT
      refine aF 19 (by kernel_rfl) rfl (fun K hK=>?_)
      obtain ⟨b,eA⟩:∃b,yX.heap.size=b:=⟨_,rfl⟩
      rw[eA] at bR dF ⊢
      obtain ⟨c0,c1,c2,c3⟩:=OG bR
      have z:∀j,Mg.frozen? ⟨b,j,none⟩=false:=fun j=>by simp[World.frozen?,bR]
      have z0:=z 0
      have z1:=z 1
      have z2:=z 2
      have z3:=z 3
      have hC:=zk.new (m:=m) bW dF bR dQ DU
      go_simp
      refine hK _ _ ⟨fun _=>(ab gV).trans (hC.bU.mono (ab gV).size),?_⟩
      clear hK K
      refine a8 (by kernel_rfl) ?_
      have HC:=al hC
      clear hC bW aT dF bR z z0 z1 z2 z3 c0 c1 c2 c3 dQ DU
      go_wp2_with fail
      go_meet
      exact ⟨b,_,_,rfl,HC⟩
    ·obtain ⟨Mf,bN⟩:∃x,wd.alloc (.cells #[.string ⟨#[]⟩,.slice none 0 0,.slice none 0 0,.slice none 0 0] 67)=x:=⟨_,rfl⟩
     have aS:Below wd.heap.size wd Mf:=by rw[←bN];exact (zE _ _).alloc (zD _) _
     have bR:Mf.heap[wd.heap.size]?=some (.cells #[.string ⟨#[]⟩,.slice none 0 0,.slice none 0 0,.slice none 0 0] 67 (0,0)):=by rw[←bN];exact aJ _ _
     have dF:wo.heap.size≤wd.heap.size:=bW.size
     go_simp
     have bW:=bW.trans (aS.mono bW.size)
     have aT:=aT.trans (aS.mono aT.size)
     refine hK _ _ ⟨fun _=>aT,?_⟩
     clear hK K bN aS
     refine aF 10 (by kernel_rfl) rfl (fun K hK=>?_)
     refine aO 23 rfl rfl 33 (fun vs=>by kernel_rfl) #[.tmp 22] #[44] rfl #[.slice ar m.res.length cr] (by first|rfl|simp[Act.eval]) (ab HR Mf aT) ?_
     rintro e' M8 ⟨u7,rfl,NX,aS⟩
     obtain ⟨ua7,uc7,rfl⟩:=bq NX
     have ZK:wo.heap.size≤Mf.heap.size:=bW.size
     have NX:=oL NX ZK
     have bW:=bW.trans (aS.mono bW.size)
     have aT:=aT.trans (aS.mono aT.size)
     have bR:=(aS.block _ (zA bR).1).trans bR
     refine ⟨_,rfl,hK _ _ ⟨fun _=>aT,?_⟩⟩
     clear hK K aS ZK
     simp only[Act.put,zL,zM,zN]
     refine aF 16 (by kernel_rfl) rfl (fun K hK=>?_)
     refine aO 29 rfl rfl 16 (fun vs=>by kernel_rfl) #[.tmp 28] #[22] rfl #[.slice ag m.gone.length cg] (by first|rfl|simp[Act.eval]) (ab HT M8 aT) ?_
     rintro e' UI ⟨u8,rfl,Ix,aS⟩
     have NX:=dL NX aS
     obtain ⟨Vh,UZ,rfl⟩:=bq Ix
     have ZJ:wo.heap.size≤M8.heap.size:=bW.size
     have Ix:=oL Ix ZJ
     have bW:=bW.trans (aS.mono bW.size)
     have aT:=aT.trans (aS.mono aT.size)
     have bR:=(aS.block _ (zA bR).1).trans bR
     refine ⟨_,rfl,hK _ _ ⟨fun _=>aT,?_⟩⟩
     clear hK K aS ZJ
     simp only[Act.put,zL,zM,zN]
     have hT:=aT
     refine aw 17 (.agg #[.string m.name,.slice none 0 0,.slice ua7 (m.res.length) uc7,.slice Vh (m.gone.length) UZ]) 30 rfl rfl (Or.inl ⟨by rfl,fun w' hw=>by go_simp⟩) hT ?_
     simp only[Act.put,zL,zM,zN]
     clear hT
     refine aF 19 (by kernel_rfl) rfl (fun K hK=>?_)
     obtain ⟨b,eA⟩:∃b,wd.heap.size=b:=⟨_,rfl⟩
     rw[eA] at bR dF ⊢
     obtain ⟨c0,c1,c2,c3⟩:=OG bR
     have z:∀j,UI.frozen? ⟨b,j,none⟩=false:=fun j=>by simp[World.frozen?,bR]
     have z0:=z 0
     have z1:=z 1
     have z2:=z 2
     have z3:=z 3
     have hC:=zk.new (m:=m) bW dF bR NX Ix
     go_simp
     refine hK _ _ ⟨fun _=>(ab gV).trans (hC.bU.mono (ab gV).size),?_⟩
     clear hK K
     refine a8 (by kernel_rfl) ?_
     have HC:=al hC
     clear hC bW aT dF bR z z0 z1 z2 z3 c0 c1 c2 c3 NX Ix
     go_wp2_with fail
     go_meet
     exact ⟨b,_,_,rfl,HC⟩
   case rest =>
    obtain ⟨b,ur,ug,rfl,HC⟩:=hcut
    have HN:Hid (wc.ownsRow wo.heap.size 74 2 (.slice none 0 0) 0 []):=⟨rfl,.inl ⟨rfl,rfl⟩⟩
    obtain ⟨PO,PL,rfl⟩:=bq (ab HC).r
    obtain ⟨PQ,PM,rfl⟩:=bq (ab HC).g
    obtain ⟨x0,x1,x2,x3⟩:=ab dD wc ((ab gV).trans ((ab HC).bU.mono (ab gV).size))
    go_wp2_with fail
    clear x0 x1 x2 x3
    go_loopg [6] m.aR.length (fun gk v6 wi=>∃(k:Nat) (uv:Value),v6=.int .i64 (k:Int)∧gk=m.aR.length-k∧k≤m.aR.length∧Hid (zk wo wi b uv (.slice PO m.res.length PL) (.slice PQ m.gone.length PM) m)∧Hid (wi.ownsRow wo.heap.size 74 2 uv k (rn (m.aR.take k))))
    case atStart=>exact ⟨0,_,rfl,rfl,by omega,HC,HN⟩
    case round =>
     obtain ⟨k,uv,rfl,gL,lZ,vE,mb⟩:=hrel
     have kH:=al gL
     clear gL HC HN
     obtain ⟨Br,Bq,rfl⟩:=bq (ab mb)
     have YG:=al (show Below W.heap.size W wr from (ab gV).trans ((ab vE).bU.mono (ab gV).size))
     obtain ⟨x0,x1,x2,x3⟩:=ab dD wr (ab YG)
     by_cases fV:k<m.aR.length
     ·obtain ⟨gv,ov,rfl,Lp,l7⟩:=ab Yd (by omega)
      have oV:=List.getElem?_eq_getElem fV
      obtain ⟨y,Rt⟩:∃y,m.aR[k]=y:=⟨_,rfl⟩
      rw[Rt] at oV
      have wu:Hid (∀w',Below W.heap.size W w'→w'.cell? ⟨gv,ov+k*2,none⟩=some (.string y.1)∧w'.cell? ⟨gv,ov+k*2+1,none⟩=some (.int .i64 y.2)):=fun w' hb =>
       ⟨(hb.cell (p:=⟨gv,ov+(k*2+0),none⟩) Lp).trans (l7 _ _ (fL oV (j:=0) (by decide))),(hb.cell (p:=⟨gv,ov+(k*2+1),none⟩) Lp).trans (l7 _ _ (fL oV (j:=1) (by decide)))⟩
      have tJ:=al (KF oV)
      have Zd:(0:Int)≤(k:Int):=zH _
      have sS:(k:Int)<(m.aR.length:Int):=by omega
      have ed:=al fV
      clear l7 oV Rt fV
      go_upto_region 9 with fail
      refine wp_region_any (by kernel_rfl) (bL (z:=13) (T:=fun w'=>Below W.heap.size W w'∧w'.cell? ⟨b,1,none⟩=some (.slice Br k Bq)) _ _ _ _ ?_)
      try (change cd _ _ _ _ _ _ _ _ _ (World.drew _))
      have hC:=(ab vE).below (below_drewN (zE wr.heap.size wr) 1)
      have hO:=dL (ab mb) (below_drewN (zE wr.heap.size wr) 1)
      change zk _ wr.drew _ _ _ _ _ at hC
      change World.ownsRow wr.drew _ _ _ _ _ _ at hO
      obtain ⟨wd,nD⟩:∃x,wr.drew=x:=⟨_,rfl⟩
      rw[nD] at hC hO ⊢
      have hT:(fun w':World=>Below W.heap.size W w'∧w'.cell? ⟨b,1,none⟩=some (.slice Br k Bq)) wd:=⟨(ab gV).trans (hC.bU.mono (ab gV).size),cell_of_row _ _ _ _ _ _ hC.dt⟩
      clear x0 x1 x2 x3
      refine aw 0 (.pointer (some ⟨b,1,none⟩)) 41 rfl rfl (Or.inl ⟨by rfl,fun w' hw=>by obtain ⟨fN,vZ⟩:=hw;obtain ⟨x0,x1,x2,x3⟩:=ab dD w' fN;obtain ⟨y0,y1⟩:=ab wu w' fN;go_simp⟩) hT ?_
      simp only[Act.put,zL,zM,zN]
      refine aw 1 (.slice Br k Bq) 42 rfl rfl (Or.inl ⟨by rfl,fun w' hw=>by obtain ⟨fN,vZ⟩:=hw;obtain ⟨x0,x1,x2,x3⟩:=ab dD w' fN;obtain ⟨y0,y1⟩:=ab wu w' fN;go_simp⟩) hT ?_
      simp only[Act.put,zL,zM,zN]
      refine aw 2 (.slice (some ⟨g,o,none⟩) l.length c) 43 rfl rfl (Or.inl ⟨by rfl,fun w' hw=>by obtain ⟨fN,vZ⟩:=hw;obtain ⟨x0,x1,x2,x3⟩:=ab dD w' fN;obtain ⟨y0,y1⟩:=ab wu w' fN;go_simp⟩) hT ?_
      simp only[Act.put,zL,zM,zN]
      refine aw 3 (.int .i64 (i:Int)) 44 rfl rfl (Or.inl ⟨by rfl,fun w' hw=>by obtain ⟨fN,vZ⟩:=hw;obtain ⟨x0,x1,x2,x3⟩:=ab dD w' fN;obtain ⟨y0,y1⟩:=ab wu w' fN;go_simp⟩) hT ?_
      simp only[Act.put,zL,zM,zN]
      refine aw 4 (.pointer (some ⟨g,o+i*4,none⟩)) 45 rfl rfl (Or.inl ⟨by rfl,fun w' hw=>by obtain ⟨fN,vZ⟩:=hw;obtain ⟨x0,x1,x2,x3⟩:=ab dD w' fN;obtain ⟨y0,y1⟩:=ab wu w' fN;go_simp⟩) hT ?_
      simp only[Act.put,zL,zM,zN]
      refine aw 5 (.pointer (some ⟨g,o+i*4+1,none⟩)) 46 rfl rfl (Or.inl ⟨by rfl,fun w' hw=>by obtain ⟨fN,vZ⟩:=hw;obtain ⟨x0,x1,x2,x3⟩:=ab dD w' fN;obtain ⟨y0,y1⟩:=ab wu w' fN;go_simp⟩) hT ?_
      simp only[Act.put,zL,zM,zN]
      refine aw 6 (.slice (some ⟨gv,ov,none⟩) m.aR.length cv) 47 rfl rfl (Or.inl ⟨by rfl,fun w' hw=>by obtain ⟨fN,vZ⟩:=hw;obtain ⟨x0,x1,x2,x3⟩:=ab dD w' fN;obtain ⟨y0,y1⟩:=ab wu w' fN;go_simp⟩) hT ?_
      simp only[Act.put,zL,zM,zN]
      refine aw 7 (.int .i64 (k:Int)) 48 rfl rfl (Or.inl ⟨by rfl,fun w' hw=>by obtain ⟨fN,vZ⟩:=hw;obtain ⟨x0,x1,x2,x3⟩:=ab dD w' fN;obtain ⟨y0,y1⟩:=ab wu w' fN;go_simp⟩) hT ?_
      simp only[Act.put,zL,zM,zN]
      refine aw 8 (.pointer (some ⟨gv,ov+k*2,none⟩)) 49 rfl rfl (Or.inl ⟨by rfl,fun w' hw=>by obtain ⟨fN,vZ⟩:=hw;obtain ⟨x0,x1,x2,x3⟩:=ab dD w' fN;obtain ⟨y0,y1⟩:=ab wu w' fN;go_simp⟩) hT ?_
      simp only[Act.put,zL,zM,zN]
      refine aw 9 (.agg #[.string y.1,.int .i64 y.2]) 50 rfl rfl (Or.inl ⟨by rfl,fun w' hw=>by obtain ⟨fN,vZ⟩:=hw;obtain ⟨x0,x1,x2,x3⟩:=ab dD w' fN;obtain ⟨y0,y1⟩:=ab wu w' fN;go_simp⟩) hT ?_
      simp only[Act.put,zL,zM,zN]
      obtain ⟨wy,J5⟩:∃x,wd.alloc (.cells #[.string y.1,.int .i64 y.2] 74)=x:=⟨_,rfl⟩
      have aS:Below wd.heap.size wd wy:=by rw[←J5];exact (zE _ _).alloc (zD _) _
      have hC:=hC.below aS
      have hO:=dL hO aS
      have hT:(fun w':World=>Below W.heap.size W w'∧w'.cell? ⟨b,1,none⟩=some (.slice Br k Bq)) wy:=⟨(ab gV).trans (hC.bU.mono (ab gV).size),cell_of_row _ _ _ _ _ _ hC.dt⟩
      have Lk:∀j u,[Value.string y.1,.int .i64 y.2][j]?=some u→wy.cell? ((⟨wd.heap.size,0,none⟩:Addr).add j)=some u:=by rw[←J5];exact xC _ _ _ _
      refine aF 10 (by kernel_rfl) rfl (fun K hK=>?_)
      go_simp
      refine hK _ _ ⟨fun _=>hT,?_⟩
      clear hK K J5 aS nD
      refine aF 11 (by kernel_rfl) rfl (fun K hK=>?_)
      refine lB 52 rfl rfl (.tmp 42) (.tmp 51) 65 rfl wo.heap.size 74 j0 (.agg #[.string ByteArray.empty,.int .i64 0]) 2 24 Tryz.underlying65 hj VP VO VM rfl (by decide) (.slice Br k Bq) k _ (by first|rfl|simp[Act.eval]) hO ⟨wd.heap.size,0,none⟩ 1 1 [.string y.1,.int .i64 y.2] (by first|rfl|simp[Act.eval]) rfl Lk (by simp[Value.oneCell']) (by have:=ab ed;have:=(ab XU).1;unfold maxLen;omega) (by have:=ab ed;have:=(ab XU).1;omega) hC.bU.size ?_
      intro v' w2 ho ep _
      have D2:=hC.Cp ep (fun j e=>(hO.lt j e).1) (dR hO hC.dt (by decide)) (DH hO hC.r (by decide)) (DH hO hC.g (by decide))
      obtain ⟨a',c',rfl⟩:=bq ho
      have Gd:(fun w':World=>Below W.heap.size W w'∧w'.cell? ⟨b,1,none⟩=some (.slice Br k Bq)) w2:=⟨(ab gV).trans (D2.bU.mono (ab gV).size),cell_of_row _ _ _ _ _ _ D2.dt⟩
      rw[←ab tJ] at ho
      refine hK _ _ ⟨fun _=>Gd,?_⟩
      clear hK K hC hO hT ep Lk
      simp only[Act.put,zL,zM,zN]
      refine aw 12 (.pointer (some ⟨b,1,none⟩)) 53 rfl rfl (Or.inl ⟨by rfl,fun w' hw=>by obtain ⟨fN,vZ⟩:=hw;go_simp⟩) Gd ?_
      simp only[Act.put,zL,zM,zN]
      have Qa:=Gd.2
      have Oc:w2.frozen? ⟨b,1,none⟩=false:=by simp[World.frozen?,D2.dt]
      obtain ⟨SB,Se⟩:=D2.val (.slice a' (k+1) c')
      have Sy:=ho.kept Se (.inr (dR ho D2.dt (by decide)))
      refine aF 13 (by kernel_rfl) rfl (fun K hK=>?_)
      go_simp
      refine hK _ _ ⟨fun h=>absurd rfl h,?_⟩
      have YF:=al SB
      have Ys:=al Sy
      clear hK K Qa Oc Gd ho D2 SB Sy Se
      refine a8 (by kernel_rfl) ?_
      go_wp2
      go_roundg (m.aR.length-(k+1))
      case measure=>have:=ab kH;have:=ab ed;omega
      case rel=>exact ⟨k+1,_,by go_num,rfl,ab ed,YF,Ys⟩
     ·obtain rfl:k=m.aR.length:=by omega
      have hO:=ab mb
      rw[List.take_length] at hO
      have Yr:=al hO
      clear hO mb
      obtain ⟨c0,c1,c2,c3⟩:=OG (ab vE).dt
      have sS:¬(m.aR.length:Int)<(m.aR.length:Int):=by omega
      have iQ:=al (show w0.heap.size≤wr.heap.size from Nat.le_trans (ab HB).size (ab vE).bU.size)
      have Yq:=al ((ab HO).kept (show wo.grownBy wr none from ⟨(ab vE).bU.os,(ab vE).bU.tape,(ab vE).bU.output,(ab vE).bU.size,fun q hq _=>(ab vE).bU.block q hq⟩) (by cases u3.ownBlock with|none=>exact .inl rfl|some q=>exact .inr (by simp)))
      have vN:=al ((ab HB).trans ((ab vE).bU.mono (ab HB).size))
      obtain ⟨ao,co,rfl⟩:=bq (ab HO)
      go_wp2_with (at_builtin;refine wpList_append_own_at _ rfl _ _ 24 rfl w0.heap.size 67 i0 (.agg #[.string ByteArray.empty,.slice none 0 0,.slice none 0 0,.slice none 0 0]) 4 88 Tryz.underlying24 hi fU dS da rfl (by decide) _ _ _ rfl ((ab Yq).alloc _) ⟨wr.heap.size,0,none⟩ 1 1 [.string m.name,.slice Br m.aR.length Bq,.slice PO m.res.length PL,.slice PQ m.gone.length PM] rfl rfl (qi _ _ _) (by simp[Value.oneCell']) (by have:=ab bu;unfold maxLen;omega) (by have:=ab bu;have:=ab Hl;omega) (by rw[zJ];have:=ab iQ;omega) ?_;intro v' w2 ho ep _ ei;have Yp:=al ho;have YC:=al (KT (ab HO) (ab TB) (ab vE) (ab Yr) (ab XU) (ab HB).size (ab Hr) ((zE _ _).alloc (zD _) _) ep ei);have Km:=al (((ab vN).alloc (ab vN).size _).grown ep (by rw[zJ];have:=ab iQ;omega) (fun q e=>((ab HO).lt q e).1));clear ho ep ei)
      go_roundg (l.length-(i+1))
      case measure=>have:=ab bz;have:=ab bu;omega
      case rel=>exact ⟨i+1,_,by go_num,rfl,ab bu,Yp,YC,Km⟩
  ·obtain rfl:i=l.length:=by omega
   have hE:=ab TB
   rw[List.take_length] at hE
   have QF:=al hE
   clear hE
   go_wp2
   go_ret
   exact ⟨_,_,rfl,ab HO,ab QF,ab HB⟩
end Go.Proofs.YtichhjfjcinjgaaGreatDoor

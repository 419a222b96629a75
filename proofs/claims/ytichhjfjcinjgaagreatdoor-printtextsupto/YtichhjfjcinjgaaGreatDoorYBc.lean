import Derived.Test.YtichhjfjcinjgaaGreatDoorM26
set_option maxHeartbeats 4000000
set_option maxRecDepth 100000
namespace Go.Proofs.YtichhjfjcinjgaaGreatDoor
open Go.RowKit
attribute [local go_sem ↓] Go.wp_at_zero Go.wp_at_succ
theorem Nb:(Tryz.prog.info? 74).map (fun i=>(i.zero,i.size,i.bytes))=some (some (.agg #[.string ByteArray.empty,.int .i64 0]),2,24):=by kernel_rfl
theorem Nc:(Tryz.prog.info? 67).map (fun i=>(i.zero,i.size,i.bytes))=some (some (.agg #[.string ByteArray.empty,.slice none 0 0,.slice none 0 0,.slice none 0 0]),4,88):=by kernel_rfl
theorem JU {l:List (ByteArray×Int)}{i:Nat}{x:ByteArray×Int} (h:l[i]?=some x):qM (l.take (i+1))=qM (l.take i)++[.string x.1,.int .i64 x.2]:=by
 rw[bL h]
 unfold qM
 rw[List.flatMap_append]
 simp
def Jx (e:En):Prop:=e.aQ.length*24≤140737488355328∧e.res.length*16≤140737488355328∧e.gone.length*16≤140737488355328
def Rest (B:Nat) (v:Value) (g:Nat):Prop:=B≤g∧v.ownBlock≠some g
theorem ew {P:Program}{md:Region.Mode}{ops:Array Oper}{Q:Exit→Act→World→Prop}{T:World→Prop}{z:Nat} (i j:Nat) {oi oj:Oper}{n:Nat}{d:Array Bool}{a:Act}{w:World} (hr:Region.ready md ops d=[i,j]) (hi:ops[i]?=some oi) (hj:ops[j]?=some oj)
  (h1:∀K:Act→World→Prop,(∀a' w',((i≠z→T w')∧bZ P md ops Q T z n (d.setIfInBounds i true) a' w')→K a' w')→if Region.wanted oi (yielded ops a.tmps)=true then Oper.wp P oi a w K Q else K (a.put oi.dst undef) w)
  (h2:∀K:Act→World→Prop,(∀a' w',((j≠z→T w')∧bZ P md ops Q T z n (d.setIfInBounds j true) a' w')→K a' w')→if Region.wanted oj (yielded ops a.tmps)=true then Oper.wp P oj a w K Q else K (a.put oj.dst undef) w):bZ P md ops Q T z (n+1) d a w:=by
 refine ⟨fun h0=>(by rw[h0] at hr;cases hr),fun k hk=>?_⟩
 rw[hr] at hk
 rcases (by simpa using hk:k=i∨k=j) with rfl|rfl
 ·exact wpOp_step hi h1
 ·exact wpOp_step hj h2
theorem nZ {B B':Nat}{w:World}{e size n:Nat}{v:Value}{xs:List Value} (h:w.ownsRow B e size v n xs) (hb:B'≤B):w.ownsRow B' e size v n xs:=by
 obtain ⟨h1,h|⟨g,cap,cur,rfl,h2,h3⟩⟩:=h
 ·exact ⟨h1,.inl h⟩
 ·exact ⟨h1,.inr ⟨g,cap,cur,rfl,Nat.le_trans hb h2,h3⟩⟩
theorem bq {B:Nat}{w:World}{e size n:Nat}{v:Value}{xs:List Value} (h:w.ownsRow B e size v n xs):∃a c,v=.slice a n c:=by
 obtain ⟨h1,⟨rfl,rfl⟩|⟨g,cap,cur,rfl,h2,h3⟩⟩:=h
 ·exact ⟨_,_,rfl⟩
 ·exact ⟨_,_,rfl⟩
structure yD (wr w:World) (b:Nat) (uv ur ug:Value) (m:En):Prop where
 bV:Below wr.heap.size wr w
 low:wr.heap.size≤b
 dj:w.heap[b]?=some (.cells #[.string m.name,uv,ur,ug] 67 (0,0))
 r:w.ownsRow wr.heap.size 111 2 ur m.res.length (kO m.res)
 g:w.ownsRow wr.heap.size 9 1 ug m.gone.length (bY m.gone)
theorem dN {B:Nat}{w:World}{e size n b t:Nat}{v:Value}{xs:List Value}{cs:Array Value}{fr:Nat×Nat} (h:w.ownsRow B e size v n xs) (hb:w.heap[b]?=some (.cells cs t fr)) (ht:e≠t):v.ownBlock≠some b:=by
 intro hv
 obtain ⟨h1,⟨rfl,_⟩|⟨g,cap,cur,rfl,_,h4,_⟩⟩:=h
 ·cases hv
 ·obtain rfl:g=b:=by simpa[Value.ownBlock] using hv
  rw[h4] at hb
  simp at hb
  exact ht hb.2.1
theorem C7 {B B':Nat}{w:World}{e e' size Qz n n':Nat}{v u:Value}{xs ys:List Value} (h:w.ownsRow B e size v n xs) (k:w.ownsRow B' e' Qz u n' ys) (ht:e≠e'):u.ownBlock=none∨u.ownBlock≠v.ownBlock:=by
 cases hu:u.ownBlock with
 |none=>exact .inl rfl
 |some q =>
  obtain ⟨k1,⟨rfl,_⟩|⟨g,cap,cur,rfl,_,h4,_⟩⟩:=k
  ·cases hu
  ·obtain rfl:g=q:=by simpa[Value.ownBlock] using hu
   exact .inr (fun e=>dN h h4 ht e.symm)
theorem yD.BR {wr w w':World}{b:Nat}{uv ur ug:Value}{m:En} (h:yD wr w b uv ur ug m) {k:Option Nat} (hg:w.grownBy w' k) (h1:∀j,k=some j→wr.heap.size≤j) (h2:k≠some b) (h3:ur.ownBlock=none∨ur.ownBlock≠k) (h4:ug.ownBlock=none∨ug.ownBlock≠k):yD wr w' b uv ur ug m :=
 ⟨h.bV.grown hg h.bV.size h1,h.low,(hg.block _ (zA h.dj).1 (fun e=>h2 e.symm)).trans h.dj,h.r.kept hg h3,h.g.kept hg h4⟩
theorem yD.below {wr w w':World}{b:Nat}{uv ur ug:Value}{m:En} (h:yD wr w b uv ur ug m) (hb:Below w.heap.size w w'):yD wr w' b uv ur ug m :=
 ⟨h.bV.trans (hb.mono h.bV.size),h.low,(hb.block _ (zA h.dj).1).trans h.dj,dH h.r hb,dH h.g hb⟩
theorem yD.new {wr w:World}{b:Nat}{ur ug x0 x1 x2 x3:Value}{m:En} (hb:Below wr.heap.size wr w) (dB:wr.heap.size≤b) (hk:w.heap[b]?=some (.cells #[x0,x1,x2,x3] 67 (0,0))) (hr:w.ownsRow wr.heap.size 111 2 ur m.res.length (kO m.res)) (hg:w.ownsRow wr.heap.size 9 1 ug m.gone.length (bY m.gone)) :
  yD wr ((((w.setCell ⟨b,0,none⟩ (.string m.name)).setCell ⟨b,1,none⟩ (.slice none 0 0)).setCell ⟨b,2,none⟩ ur).setCell ⟨b,3,none⟩ ug) b (.slice none 0 0) ur ug m:=by
 obtain ⟨a1,a2⟩:=bh (j:=0) hk (.string m.name)
 obtain ⟨b1,b2⟩:=bh (j:=1) a1 (.slice none 0 0)
 obtain ⟨c1,c2⟩:=bh (j:=2) b1 ur
 obtain ⟨d1,d2⟩:=bh (j:=3) c1 ug
 have nh:=((a2.trans b2).trans c2).trans d2
 exact ⟨hb.grown nh hb.size (fun k e=>by obtain rfl:=zC e;exact dB),dB,d1,hr.kept nh (.inr (dN hr hk (by decide))),hg.kept nh (.inr (dN hg hk (by decide)))⟩
theorem yD.val {wr w:World}{b:Nat}{uv ur ug:Value}{m:En} (h:yD wr w b uv ur ug m) (u:Value):yD wr (w.setCell ⟨b,1,none⟩ u) b u ur ug m∧w.grownBy (w.setCell ⟨b,1,none⟩ u) (some b):=by
 obtain ⟨a1,a2⟩:=bh (j:=1) h.dj u
 exact ⟨⟨h.bV.grown a2 h.bV.size (fun k e=>by obtain rfl:=zC e;exact h.low),h.low,a1,h.r.kept a2 (.inr (dN h.r h.dj (by decide))),h.g.kept a2 (.inr (dN h.g h.dj (by decide)))⟩,a2⟩
theorem J9 {w0 wo wr wy w2:World}{v3 v' uv ur ug:Value}{iH:List Value}{l:List En}{i b:Nat}{m:En} (hO:wo.ownsRow w0.heap.size 67 4 v3 i iH) (hE:pd (Rest w0.heap.size v3) wo iH (l.take i)) (hC:yD wo wr b uv ur ug m) (hV:wr.ownsRow wo.heap.size 74 2 uv m.aQ.length (qM m.aQ)) (hm:Jx m) (hB:w0.heap.size≤wo.heap.size) (hr:l[i]?=some m)
  (hy:Below wr.heap.size wr wy) (hg:wy.grownBy w2 v3.ownBlock) (dZ:v'.ownBlock=v3.ownBlock∨v'.ownBlock=some wy.heap.size):pd (Rest w0.heap.size v') w2 (iH++[.string m.name,uv,ur,ug]) (l.take (i+1)):=by
 obtain ⟨Nq,Pl,hm3⟩:=hm
 have xK:=hC.bV.size
 have gj:=hy.size
 rw[bL hr]
 refine (hE.mono (R':=Rest w0.heap.size v') (fun g dK hl=>?_)).app (.cons ((cy hV (by omega)).mono ?_) ((cy hC.r (by omega)).mono ?_) ((cy hC.g (by omega)).mono ?_) .nil)
 ·refine ⟨((hg.block g (by omega) (fun e=>dK.2 e.symm)).trans (hy.block g (by omega))).trans (hC.bV.block g hl),dK.1,?_⟩
  rcases dZ with e|e
  ·rw[e];exact dK.2
  ·rw[e];intro q;obtain rfl:=zC q;omega
 all_goals
  intro g dK hl
  have iG:v3.ownBlock≠some g:=fun e=>by have:=(hO.lt g e).2;omega
  refine ⟨(hg.block g (by omega) (fun e=>iG e.symm)).trans (hy.block g (by omega)),by omega,?_⟩
  rcases dZ with e|e
  ·rw[e];exact iG
  ·rw[e];intro q;obtain rfl:=zC q;omega
theorem pL (w:World) (xs:List Value) (t:TypeId):∀j u,xs[j]?=some u→(w.alloc (.cells xs.toArray t)).cell? ((⟨w.heap.size,0,none⟩:Addr).add j)=some u:=by
 intro j u h
 have e:(w.alloc (.cells xs.toArray t)).cell? ⟨w.heap.size,j,none⟩=some u:=by
  rw[cell_of_row _ _ _ _ _ _ (aK w _)]
  simpa using h
 by_cases hj:j=0<;>simpa[Addr.add,hj] using e
theorem wN {W:World}{v:Value}{l:List En}{cs:List Value} (hv:Rl W v l.length cs) (he:u9 W cs l) (hl:l.length*88≤140737488355328) (hz:∀e ∈ l,Jx e) (w0:World) (hw:Below W.heap.size W w0) :
  Calls Tryz.prog 18 #[v] w0 fun e w=>∃u iH,e=.returned u∧w.ownsRow w0.heap.size 67 4 u l.length iH∧pd (Rest w0.heap.size u) w iH l∧Below w0.heap.size w0 w:=by
 obtain ⟨a,c,rfl,hn,h2⟩:=hv
 obtain ⟨i0,hi,gf,fX,dY⟩:=info_parts Nc
 obtain ⟨j0,hj,Vh,Vg,Vf⟩:=info_parts Nb
 have H2:=al h2
 have HW:=al hw
 have Hl:=al hl
 have Xv:=al he
 have Hz:=al hz
 clear h2 hw hl he hz
 go_enter Tryz.func18,Tryz.ntmps18
 go_wp2
 go_loopg [3,4,5,6] l.length (fun gk v3 v4 _ _ wr=>∃(i:Nat) (iH:List Value),v4=.int .i64 (i:Int)∧gk=l.length-i∧i≤l.length∧Hid (wr.ownsRow w0.heap.size 67 4 v3 i iH)∧Hid (pd (Rest w0.heap.size v3) wr iH (l.take i))∧Hid (Below w0.heap.size w0 wr))
 case atStart=>exact ⟨0,[],rfl,rfl,by omega,⟨rfl,.inl ⟨rfl,rfl⟩⟩,.nil,zE _ _⟩
 case round =>
  obtain ⟨i,iH,rfl,aU,eO,HO,S1,HB⟩:=hrel
  have bz:=al aU
  clear aU
  obtain ⟨wo,iv⟩:∃x,x=wr:=⟨_,rfl⟩
  subst iv
  by_cases aM:i<l.length
  ·obtain ⟨g,o,rfl,hg,hc⟩:=ab H2 (by omega)
   have hr:=List.getElem?_eq_getElem aM
   have cG:=List.getElem_mem aM
   obtain ⟨m,yv⟩:∃m,l[i]=m:=⟨_,rfl⟩
   rw[yv] at hr cG
   obtain ⟨vv,vr,vg,dQ,QS,De,Df⟩:=(ab Xv).at i m hr
   have gN:=al (show Below W.heap.size W wo from (ab HW).trans ((ab HB).mono (ab HW).size))
   have dy:Hid (∀w',Below W.heap.size W w'→w'.cell? ⟨g,o+i*4,none⟩=some (.string m.name)∧w'.cell? ⟨g,o+i*4+1,none⟩=some vv∧w'.cell? ⟨g,o+i*4+2,none⟩=some vr∧w'.cell? ⟨g,o+i*4+3,none⟩=some vg):=by
    intro w' hb
    have key:∀(j:Nat) (x:Value),[Value.string m.name,vv,vr,vg][j]?=some x→w'.cell? ⟨g,o+(i*4+j),none⟩=some x:=fun j x hx=>(hb.cell (p:=⟨g,o+(i*4+j),none⟩) hg).trans (hc _ _ (by
     rw[←dQ,List.getElem?_take,List.getElem?_drop] at hx
     split at hx
     ·exact hx
     ·cases hx))
    exact ⟨key 0 _ rfl,key 1 _ rfl,key 2 _ rfl,key 3 _ rfl⟩
   have HR:=al (fun w' hb=>tD De (ab Hz m cG).2.1 w' hb)
   have HT:=al (fun w' hb=>mr Df (ab Hz m cG).2.2 w' hb)
   obtain ⟨av,cv,rfl,Ag,fk⟩:=QS
   obtain ⟨ar,cr,rfl,-,-⟩:=De
   obtain ⟨ag,cg,rfl,-,-⟩:=Df
   have XA:=al fk
   have LM:(0:Int)≤(i:Int):=zH _
   have i1:(i:Int)<(l.length:Int):=by omega
   have bu:=al aM
   have Xm:=al (ab Hz m cG)
   have Hr:=al hr
   have iD:=al (ab HB).size
   clear hc cG yv dQ fk aM hr
   go_upto_region 5 with fail
   go_cut [5] (fun v5 wx=>∃(b:Nat) (ur ug:Value),v5=.pointer (some ⟨b,0,none⟩)∧Hid (yD wo wx b (.slice none 0 0) ur ug m))
   case first =>
    refine wp_region_any (by kernel_rfl) (bK (z:=99) (T:=fun w'=>Below W.heap.size W w') _ _ _ _ ?_)
    try (change bZ _ _ _ _ _ _ _ _ _ (World.drew _))
    have aS:Below W.heap.size W wo.drew:=below_drewN (ab gN) 1
    have bT:Below wo.heap.size wo wo.drew:=below_drewN (zE wo.heap.size wo) 1
    obtain ⟨wd,mW⟩:∃x,wo.drew=x:=⟨_,rfl⟩
    rw[mW] at aS bT ⊢
    have hT:=aS
    refine aw 0 (.slice (some ⟨g,o,none⟩) l.length c) 13 rfl rfl (Or.inl ⟨by rfl,fun w' hw=>by obtain ⟨x0,x1,x2,x3⟩:=ab dy w' hw;go_simp⟩) hT ?_
    simp only[Act.put,zL,zM,zN]
    refine aw 1 (.int .i64 (i:Int)) 14 rfl rfl (Or.inl ⟨by rfl,fun w' hw=>by obtain ⟨x0,x1,x2,x3⟩:=ab dy w' hw;go_simp⟩) hT ?_
    simp only[Act.put,zL,zM,zN]
    refine aw 2 (.pointer (some ⟨g,o+i*4,none⟩)) 15 rfl rfl (Or.inl ⟨by rfl,fun w' hw=>by obtain ⟨x0,x1,x2,x3⟩:=ab dy w' hw;go_simp⟩) hT ?_
    simp only[Act.put,zL,zM,zN]
    refine aw 3 (.pointer (some ⟨g,o+i*4,none⟩)) 16 rfl rfl (Or.inl ⟨by rfl,fun w' hw=>by obtain ⟨x0,x1,x2,x3⟩:=ab dy w' hw;go_simp⟩) hT ?_
    simp only[Act.put,zL,zM,zN]
    refine aw 4 (.string m.name) 17 rfl rfl (Or.inl ⟨by rfl,fun w' hw=>by obtain ⟨x0,x1,x2,x3⟩:=ab dy w' hw;go_simp⟩) hT ?_
    simp only[Act.put,zL,zM,zN]
    refine aw 5 (.slice (some ⟨g,o,none⟩) l.length c) 18 rfl rfl (Or.inl ⟨by rfl,fun w' hw=>by obtain ⟨x0,x1,x2,x3⟩:=ab dy w' hw;go_simp⟩) hT ?_
    simp only[Act.put,zL,zM,zN]
    refine aw 6 (.int .i64 (i:Int)) 19 rfl rfl (Or.inl ⟨by rfl,fun w' hw=>by obtain ⟨x0,x1,x2,x3⟩:=ab dy w' hw;go_simp⟩) hT ?_
    simp only[Act.put,zL,zM,zN]
    refine aw 7 (.pointer (some ⟨g,o+i*4,none⟩)) 20 rfl rfl (Or.inl ⟨by rfl,fun w' hw=>by obtain ⟨x0,x1,x2,x3⟩:=ab dy w' hw;go_simp⟩) hT ?_
    simp only[Act.put,zL,zM,zN]
    refine aw 8 (.pointer (some ⟨g,o+i*4+2,none⟩)) 21 rfl rfl (Or.inl ⟨by rfl,fun w' hw=>by obtain ⟨x0,x1,x2,x3⟩:=ab dy w' hw;go_simp⟩) hT ?_
    simp only[Act.put,zL,zM,zN]
    refine aw 9 (.slice ar m.res.length cr) 22 rfl rfl (Or.inl ⟨by rfl,fun w' hw=>by obtain ⟨x0,x1,x2,x3⟩:=ab dy w' hw;go_simp⟩) hT ?_
    simp only[Act.put,zL,zM,zN]
    refine aw 11 (.slice (some ⟨g,o,none⟩) l.length c) 24 rfl rfl (Or.inl ⟨by rfl,fun w' hw=>by obtain ⟨x0,x1,x2,x3⟩:=ab dy w' hw;go_simp⟩) hT ?_
    simp only[Act.put,zL,zM,zN]
    refine aw 12 (.int .i64 (i:Int)) 25 rfl rfl (Or.inl ⟨by rfl,fun w' hw=>by obtain ⟨x0,x1,x2,x3⟩:=ab dy w' hw;go_simp⟩) hT ?_
    simp only[Act.put,zL,zM,zN]
    refine aw 13 (.pointer (some ⟨g,o+i*4,none⟩)) 26 rfl rfl (Or.inl ⟨by rfl,fun w' hw=>by obtain ⟨x0,x1,x2,x3⟩:=ab dy w' hw;go_simp⟩) hT ?_
    simp only[Act.put,zL,zM,zN]
    refine aw 14 (.pointer (some ⟨g,o+i*4+3,none⟩)) 27 rfl rfl (Or.inl ⟨by rfl,fun w' hw=>by obtain ⟨x0,x1,x2,x3⟩:=ab dy w' hw;go_simp⟩) hT ?_
    simp only[Act.put,zL,zM,zN]
    refine aw 15 (.slice ag m.gone.length cg) 28 rfl rfl (Or.inl ⟨by rfl,fun w' hw=>by obtain ⟨x0,x1,x2,x3⟩:=ab dy w' hw;go_simp⟩) hT ?_
    simp only[Act.put,zL,zM,zN]
    clear hT
    refine ew 10 18 (by kernel_rfl) rfl rfl (fun K hK=>?_) (fun K hK=>?_)
    ·refine aO 23 rfl rfl 33 (fun vs=>by kernel_rfl) #[.tmp 22] #[44] rfl #[.slice ar m.res.length cr] (by first|rfl|simp[Act.eval]) (ab HR wd aS) ?_
     rintro e' yq ⟨u1,rfl,dM,aR⟩
     obtain ⟨FM,FL,rfl⟩:=bq dM
     have Ro:wo.heap.size≤wd.heap.size:=bT.size
     have dM:=nZ dM Ro
     have bT:=bT.trans (aR.mono bT.size)
     have aS:=aS.trans (aR.mono aS.size)
     refine ⟨_,rfl,hK _ _ ⟨fun _=>aS,?_⟩⟩
     clear hK K aR Ro
     simp only[Act.put,zL,zM,zN]
     refine ew 16 18 (by kernel_rfl) rfl rfl (fun K hK=>?_) (fun K hK=>?_)
     ·refine aO 29 rfl rfl 16 (fun vs=>by kernel_rfl) #[.tmp 28] #[22] rfl #[.slice ag m.gone.length cg] (by first|rfl|simp[Act.eval]) (ab HT yq aS) ?_
      rintro e' AQ ⟨u2,rfl,gC,aR⟩
      have dM:=dH dM aR
      obtain ⟨JK,JJ,rfl⟩:=bq gC
      have KH:wo.heap.size≤yq.heap.size:=bT.size
      have gC:=nZ gC KH
      have bT:=bT.trans (aR.mono bT.size)
      have aS:=aS.trans (aR.mono aS.size)
      refine ⟨_,rfl,hK _ _ ⟨fun _=>aS,?_⟩⟩
      clear hK K aR KH
      simp only[Act.put,zL,zM,zN]
      have hT:=aS
      refine aw 17 (.agg #[.string m.name,.slice none 0 0,.slice FM (m.res.length) FL,.slice JK (m.gone.length) JJ]) 30 rfl rfl (Or.inl ⟨by rfl,fun w' hw=>by go_simp⟩) hT ?_
      simp only[Act.put,zL,zM,zN]
      clear hT
      refine aF 18 (by kernel_rfl) rfl (fun K hK=>?_)
      obtain ⟨A',bM⟩:∃x,AQ.alloc (.cells #[.string ⟨#[]⟩,.slice none 0 0,.slice none 0 0,.slice none 0 0] 67)=x:=⟨_,rfl⟩
      have aR:Below AQ.heap.size AQ A':=by rw[←bM];exact (zE _ _).alloc (zD _) _
      have bP:A'.heap[AQ.heap.size]?=some (.cells #[.string ⟨#[]⟩,.slice none 0 0,.slice none 0 0,.slice none 0 0] 67 (0,0)):=by rw[←bM];exact aK _ _
      have dB:wo.heap.size≤AQ.heap.size:=bT.size
      go_simp
      have dM:=dH dM aR
      have gC:=dH gC aR
      have bT:=bT.trans (aR.mono bT.size)
      have aS:=aS.trans (aR.mono aS.size)
      refine hK _ _ ⟨fun _=>aS,?_⟩
      clear hK K bM aR
      refine aF 19 (by kernel_rfl) rfl (fun K hK=>?_)
      obtain ⟨b,et⟩:∃b,AQ.heap.size=b:=⟨_,rfl⟩
      rw[et] at bP dB ⊢
      obtain ⟨c0,c1,c2,c3⟩:=NZ bP
      have z:∀j,A'.frozen? ⟨b,j,none⟩=false:=fun j=>by simp[World.frozen?,bP]
      have z0:=z 0
      have z1:=z 1
      have z2:=z 2
      have z3:=z 3
      have hC:=yD.new (m:=m) bT dB bP dM gC
      go_simp
      refine hK _ _ ⟨fun _=>(ab gN).trans (hC.bV.mono (ab gN).size),?_⟩
      clear hK K
      refine aZ (by kernel_rfl) ?_
      have HC:=al hC
      clear hC bT aS dB bP z z0 z1 z2 z3 c0 c1 c2 c3 dM gC
      go_wp2_with fail
      go_meet
      exact ⟨b,_,_,rfl,HC⟩
     ·obtain ⟨Fm,bM⟩:∃x,yq.alloc (.cells #[.string ⟨#[]⟩,.slice none 0 0,.slice none 0 0,.slice none 0 0] 67)=x:=⟨_,rfl⟩
      have aR:Below yq.heap.size yq Fm:=by rw[←bM];exact (zE _ _).alloc (zD _) _
      have bP:Fm.heap[yq.heap.size]?=some (.cells #[.string ⟨#[]⟩,.slice none 0 0,.slice none 0 0,.slice none 0 0] 67 (0,0)):=by rw[←bM];exact aK _ _
      have dB:wo.heap.size≤yq.heap.size:=bT.size
      go_simp
      have dM:=dH dM aR
      have bT:=bT.trans (aR.mono bT.size)
      have aS:=aS.trans (aR.mono aS.size)
      refine hK _ _ ⟨fun _=>aS,?_⟩
      clear hK K bM aR
      refine aF 16 (by kernel_rfl) rfl (fun K hK=>?_)
      refine aO 29 rfl rfl 16 (fun vs=>by kernel_rfl) #[.tmp 28] #[22] rfl #[.slice ag m.gone.length cg] (by first|rfl|simp[Act.eval]) (ab HT Fm aS) ?_
      rintro e' LC ⟨u5,rfl,Di,aR⟩
      have dM:=dH dM aR
      obtain ⟨UI,Uo,rfl⟩:=bq Di
      have Pm:wo.heap.size≤Fm.heap.size:=bT.size
      have Di:=nZ Di Pm
      have bT:=bT.trans (aR.mono bT.size)
      have aS:=aS.trans (aR.mono aS.size)
      have bP:=(aR.block _ (zA bP).1).trans bP
      refine ⟨_,rfl,hK _ _ ⟨fun _=>aS,?_⟩⟩
      clear hK K aR Pm
      simp only[Act.put,zL,zM,zN]
      have hT:=aS
      refine aw 17 (.agg #[.string m.name,.slice none 0 0,.slice FM (m.res.length) FL,.slice UI (m.gone.length) Uo]) 30 rfl rfl (Or.inl ⟨by rfl,fun w' hw=>by go_simp⟩) hT ?_
      simp only[Act.put,zL,zM,zN]
      clear hT
      refine aF 19 (by kernel_rfl) rfl (fun K hK=>?_)
      obtain ⟨b,et⟩:∃b,yq.heap.size=b:=⟨_,rfl⟩
      rw[et] at bP dB ⊢
      obtain ⟨c0,c1,c2,c3⟩:=NZ bP
      have z:∀j,LC.frozen? ⟨b,j,none⟩=false:=fun j=>by simp[World.frozen?,bP]
      have z0:=z 0
      have z1:=z 1
      have z2:=z 2
      have z3:=z 3
      have hC:=yD.new (m:=m) bT dB bP dM Di
      go_simp
      refine hK _ _ ⟨fun _=>(ab gN).trans (hC.bV.mono (ab gN).size),?_⟩
      clear hK K
      refine aZ (by kernel_rfl) ?_
      have HC:=al hC
      clear hC bT aS dB bP z z0 z1 z2 z3 c0 c1 c2 c3 dM Di
      go_wp2_with fail
      go_meet
      exact ⟨b,_,_,rfl,HC⟩
    ·obtain ⟨Lz,bM⟩:∃x,wd.alloc (.cells #[.string ⟨#[]⟩,.slice none 0 0,.slice none 0 0,.slice none 0 0] 67)=x:=⟨_,rfl⟩
     have aR:Below wd.heap.size wd Lz:=by rw[←bM];exact (zE _ _).alloc (zD _) _
     have bP:Lz.heap[wd.heap.size]?=some (.cells #[.string ⟨#[]⟩,.slice none 0 0,.slice none 0 0,.slice none 0 0] 67 (0,0)):=by rw[←bM];exact aK _ _
     have dB:wo.heap.size≤wd.heap.size:=bT.size
     go_simp
     have bT:=bT.trans (aR.mono bT.size)
     have aS:=aS.trans (aR.mono aS.size)
     refine hK _ _ ⟨fun _=>aS,?_⟩
     clear hK K bM aR
     refine aF 10 (by kernel_rfl) rfl (fun K hK=>?_)
     refine aO 23 rfl rfl 33 (fun vs=>by kernel_rfl) #[.tmp 22] #[44] rfl #[.slice ar m.res.length cr] (by first|rfl|simp[Act.eval]) (ab HR Lz aS) ?_
     rintro e' Mw ⟨u7,rfl,Nl,aR⟩
     obtain ⟨ua7,uc7,rfl⟩:=bq Nl
     have Zh:wo.heap.size≤Lz.heap.size:=bT.size
     have Nl:=nZ Nl Zh
     have bT:=bT.trans (aR.mono bT.size)
     have aS:=aS.trans (aR.mono aS.size)
     have bP:=(aR.block _ (zA bP).1).trans bP
     refine ⟨_,rfl,hK _ _ ⟨fun _=>aS,?_⟩⟩
     clear hK K aR Zh
     simp only[Act.put,zL,zM,zN]
     refine aF 16 (by kernel_rfl) rfl (fun K hK=>?_)
     refine aO 29 rfl rfl 16 (fun vs=>by kernel_rfl) #[.tmp 28] #[22] rfl #[.slice ag m.gone.length cg] (by first|rfl|simp[Act.eval]) (ab HT Mw aS) ?_
     rintro e' Ub ⟨u8,rfl,GV,aR⟩
     have Nl:=dH Nl aR
     obtain ⟨UH,Un,rfl⟩:=bq GV
     have Zg:wo.heap.size≤Mw.heap.size:=bT.size
     have GV:=nZ GV Zg
     have bT:=bT.trans (aR.mono bT.size)
     have aS:=aS.trans (aR.mono aS.size)
     have bP:=(aR.block _ (zA bP).1).trans bP
     refine ⟨_,rfl,hK _ _ ⟨fun _=>aS,?_⟩⟩
     clear hK K aR Zg
     simp only[Act.put,zL,zM,zN]
     have hT:=aS
     refine aw 17 (.agg #[.string m.name,.slice none 0 0,.slice ua7 (m.res.length) uc7,.slice UH (m.gone.length) Un]) 30 rfl rfl (Or.inl ⟨by rfl,fun w' hw=>by go_simp⟩) hT ?_
     simp only[Act.put,zL,zM,zN]
     clear hT
     refine aF 19 (by kernel_rfl) rfl (fun K hK=>?_)
     obtain ⟨b,et⟩:∃b,wd.heap.size=b:=⟨_,rfl⟩
     rw[et] at bP dB ⊢
     obtain ⟨c0,c1,c2,c3⟩:=NZ bP
     have z:∀j,Ub.frozen? ⟨b,j,none⟩=false:=fun j=>by simp[World.frozen?,bP]
     have z0:=z 0
     have z1:=z 1
     have z2:=z 2
     have z3:=z 3
     have hC:=yD.new (m:=m) bT dB bP Nl GV
     go_simp
     refine hK _ _ ⟨fun _=>(ab gN).trans (hC.bV.mono (ab gN).size),?_⟩
     clear hK K
     refine aZ (by kernel_rfl) ?_
     have HC:=al hC
     clear hC bT aS dB bP z z0 z1 z2 z3 c0 c1 c2 c3 Nl GV
     go_wp2_with fail
     go_meet
     exact ⟨b,_,_,rfl,HC⟩
   case rest =>
    obtain ⟨b,ur,ug,rfl,HC⟩:=hcut
    have HN:Hid (wc.ownsRow wo.heap.size 74 2 (.slice none 0 0) 0 []):=⟨rfl,.inl ⟨rfl,rfl⟩⟩
    obtain ⟨O5,O0,rfl⟩:=bq (ab HC).r
    obtain ⟨O6,O3,rfl⟩:=bq (ab HC).g
    obtain ⟨x0,x1,x2,x3⟩:=ab dy wc ((ab gN).trans ((ab HC).bV.mono (ab gN).size))
    go_wp2_with fail
    clear x0 x1 x2 x3
    go_loopg [6] m.aQ.length (fun gk v6 wi=>∃(k:Nat) (uv:Value),v6=.int .i64 (k:Int)∧gk=m.aQ.length-k∧k≤m.aQ.length∧Hid (yD wo wi b uv (.slice O5 m.res.length O0) (.slice O6 m.gone.length O3) m)∧Hid (wi.ownsRow wo.heap.size 74 2 uv k (qM (m.aQ.take k))))
    case atStart=>exact ⟨0,_,rfl,rfl,by omega,HC,HN⟩
    case round =>
     obtain ⟨k,uv,rfl,gD,lG,uQ,lM⟩:=hrel
     have ki:=al gD
     clear gD HC HN
     obtain ⟨AU,AT,rfl⟩:=bq (ab lM)
     have Ya:=al (show Below W.heap.size W wr from (ab gN).trans ((ab uQ).bV.mono (ab gN).size))
     obtain ⟨x0,x1,x2,x3⟩:=ab dy wr (ab Ya)
     by_cases fM:k<m.aQ.length
     ·obtain ⟨gv,ov,rfl,KJ,lH⟩:=ab XA (by omega)
      have oA:=List.getElem?_eq_getElem fM
      obtain ⟨y,QQ⟩:∃y,m.aQ[k]=y:=⟨_,rfl⟩
      rw[QQ] at oA
      have vG:Hid (∀w',Below W.heap.size W w'→w'.cell? ⟨gv,ov+k*2,none⟩=some (.string y.1)∧w'.cell? ⟨gv,ov+k*2+1,none⟩=some (.int .i64 y.2)):=fun w' hb =>
       ⟨(hb.cell (p:=⟨gv,ov+(k*2+0),none⟩) KJ).trans (lH _ _ (fD oA (j:=0) (by decide))),(hb.cell (p:=⟨gv,ov+(k*2+1),none⟩) KJ).trans (lH _ _ (fD oA (j:=1) (by decide)))⟩
      have s9:=al (JU oA)
      have YF:(0:Int)≤(k:Int):=zH _
      have ss:(k:Int)<(m.aQ.length:Int):=by omega
      have dV:=al fM
      clear lH oA QQ fM
      go_upto_region 9 with fail
      refine wp_region_any (by kernel_rfl) (bK (z:=13) (T:=fun w'=>Below W.heap.size W w'∧w'.cell? ⟨b,1,none⟩=some (.slice AU k AT)) _ _ _ _ ?_)
      try (change bZ _ _ _ _ _ _ _ _ _ (World.drew _))
      have hC:=(ab uQ).below (below_drewN (zE wr.heap.size wr) 1)
      have hO:=dH (ab lM) (below_drewN (zE wr.heap.size wr) 1)
      change yD _ wr.drew _ _ _ _ _ at hC
      change World.ownsRow wr.drew _ _ _ _ _ _ at hO
      obtain ⟨wd,mW⟩:∃x,wr.drew=x:=⟨_,rfl⟩
      rw[mW] at hC hO ⊢
      have hT:(fun w':World=>Below W.heap.size W w'∧w'.cell? ⟨b,1,none⟩=some (.slice AU k AT)) wd:=⟨(ab gN).trans (hC.bV.mono (ab gN).size),cell_of_row _ _ _ _ _ _ hC.dj⟩
      clear x0 x1 x2 x3
      refine aw 0 (.pointer (some ⟨b,1,none⟩)) 41 rfl rfl (Or.inl ⟨by rfl,fun w' hw=>by obtain ⟨fG,vx⟩:=hw;obtain ⟨x0,x1,x2,x3⟩:=ab dy w' fG;obtain ⟨y0,y1⟩:=ab vG w' fG;go_simp⟩) hT ?_
      simp only[Act.put,zL,zM,zN]
      refine aw 1 (.slice AU k AT) 42 rfl rfl (Or.inl ⟨by rfl,fun w' hw=>by obtain ⟨fG,vx⟩:=hw;obtain ⟨x0,x1,x2,x3⟩:=ab dy w' fG;obtain ⟨y0,y1⟩:=ab vG w' fG;go_simp⟩) hT ?_
      simp only[Act.put,zL,zM,zN]
      refine aw 2 (.slice (some ⟨g,o,none⟩) l.length c) 43 rfl rfl (Or.inl ⟨by rfl,fun w' hw=>by obtain ⟨fG,vx⟩:=hw;obtain ⟨x0,x1,x2,x3⟩:=ab dy w' fG;obtain ⟨y0,y1⟩:=ab vG w' fG;go_simp⟩) hT ?_
      simp only[Act.put,zL,zM,zN]
      refine aw 3 (.int .i64 (i:Int)) 44 rfl rfl (Or.inl ⟨by rfl,fun w' hw=>by obtain ⟨fG,vx⟩:=hw;obtain ⟨x0,x1,x2,x3⟩:=ab dy w' fG;obtain ⟨y0,y1⟩:=ab vG w' fG;go_simp⟩) hT ?_
      simp only[Act.put,zL,zM,zN]
      refine aw 4 (.pointer (some ⟨g,o+i*4,none⟩)) 45 rfl rfl (Or.inl ⟨by rfl,fun w' hw=>by obtain ⟨fG,vx⟩:=hw;obtain ⟨x0,x1,x2,x3⟩:=ab dy w' fG;obtain ⟨y0,y1⟩:=ab vG w' fG;go_simp⟩) hT ?_
      simp only[Act.put,zL,zM,zN]
      refine aw 5 (.pointer (some ⟨g,o+i*4+1,none⟩)) 46 rfl rfl (Or.inl ⟨by rfl,fun w' hw=>by obtain ⟨fG,vx⟩:=hw;obtain ⟨x0,x1,x2,x3⟩:=ab dy w' fG;obtain ⟨y0,y1⟩:=ab vG w' fG;go_simp⟩) hT ?_
      simp only[Act.put,zL,zM,zN]
      refine aw 6 (.slice (some ⟨gv,ov,none⟩) m.aQ.length cv) 47 rfl rfl (Or.inl ⟨by rfl,fun w' hw=>by obtain ⟨fG,vx⟩:=hw;obtain ⟨x0,x1,x2,x3⟩:=ab dy w' fG;obtain ⟨y0,y1⟩:=ab vG w' fG;go_simp⟩) hT ?_
      simp only[Act.put,zL,zM,zN]
      refine aw 7 (.int .i64 (k:Int)) 48 rfl rfl (Or.inl ⟨by rfl,fun w' hw=>by obtain ⟨fG,vx⟩:=hw;obtain ⟨x0,x1,x2,x3⟩:=ab dy w' fG;obtain ⟨y0,y1⟩:=ab vG w' fG;go_simp⟩) hT ?_
      simp only[Act.put,zL,zM,zN]
      refine aw 8 (.pointer (some ⟨gv,ov+k*2,none⟩)) 49 rfl rfl (Or.inl ⟨by rfl,fun w' hw=>by obtain ⟨fG,vx⟩:=hw;obtain ⟨x0,x1,x2,x3⟩:=ab dy w' fG;obtain ⟨y0,y1⟩:=ab vG w' fG;go_simp⟩) hT ?_
      simp only[Act.put,zL,zM,zN]
      refine aw 9 (.agg #[.string y.1,.int .i64 y.2]) 50 rfl rfl (Or.inl ⟨by rfl,fun w' hw=>by obtain ⟨fG,vx⟩:=hw;obtain ⟨x0,x1,x2,x3⟩:=ab dy w' fG;obtain ⟨y0,y1⟩:=ab vG w' fG;go_simp⟩) hT ?_
      simp only[Act.put,zL,zM,zN]
      obtain ⟨wy,Jo⟩:∃x,wd.alloc (.cells #[.string y.1,.int .i64 y.2] 74)=x:=⟨_,rfl⟩
      have aR:Below wd.heap.size wd wy:=by rw[←Jo];exact (zE _ _).alloc (zD _) _
      have hC:=hC.below aR
      have hO:=dH hO aR
      have hT:(fun w':World=>Below W.heap.size W w'∧w'.cell? ⟨b,1,none⟩=some (.slice AU k AT)) wy:=⟨(ab gN).trans (hC.bV.mono (ab gN).size),cell_of_row _ _ _ _ _ _ hC.dj⟩
      have KE:∀j u,[Value.string y.1,.int .i64 y.2][j]?=some u→wy.cell? ((⟨wd.heap.size,0,none⟩:Addr).add j)=some u:=by rw[←Jo];exact wU _ _ _ _
      refine aF 10 (by kernel_rfl) rfl (fun K hK=>?_)
      go_simp
      refine hK _ _ ⟨fun _=>hT,?_⟩
      clear hK K Jo aR mW
      refine aF 11 (by kernel_rfl) rfl (fun K hK=>?_)
      refine kW 52 rfl rfl (.tmp 42) (.tmp 51) 65 rfl wo.heap.size 74 j0 (.agg #[.string ByteArray.empty,.int .i64 0]) 2 24 Tryz.underlying65 hj Vh Vg Vf rfl (by decide) (.slice AU k AT) k _ (by first|rfl|simp[Act.eval]) hO ⟨wd.heap.size,0,none⟩ 1 1 [.string y.1,.int .i64 y.2] (by first|rfl|simp[Act.eval]) rfl KE (by simp[Value.oneCell']) (by have:=ab dV;have:=(ab Xm).1;unfold maxLen;omega) (by have:=ab dV;have:=(ab Xm).1;omega) hC.bV.size ?_
      intro v' w2 ho ed _
      have Dp:=hC.BR ed (fun j e=>(hO.lt j e).1) (dN hO hC.dj (by decide)) (C7 hO hC.r (by decide)) (C7 hO hC.g (by decide))
      obtain ⟨a',c',rfl⟩:=bq ho
      have Fx:(fun w':World=>Below W.heap.size W w'∧w'.cell? ⟨b,1,none⟩=some (.slice AU k AT)) w2:=⟨(ab gN).trans (Dp.bV.mono (ab gN).size),cell_of_row _ _ _ _ _ _ Dp.dj⟩
      rw[←ab s9] at ho
      refine hK _ _ ⟨fun _=>Fx,?_⟩
      clear hK K hC hO hT ed KE
      simp only[Act.put,zL,zM,zN]
      refine aw 12 (.pointer (some ⟨b,1,none⟩)) 53 rfl rfl (Or.inl ⟨by rfl,fun w' hw=>by obtain ⟨fG,vx⟩:=hw;go_simp⟩) Fx ?_
      simp only[Act.put,zL,zM,zN]
      have Px:=Fx.2
      have NB:w2.frozen? ⟨b,1,none⟩=false:=by simp[World.frozen?,Dp.dj]
      obtain ⟨RU,Rw⟩:=Dp.val (.slice a' (k+1) c')
      have RR:=ho.kept Rw (.inr (dN ho Dp.dj (by decide)))
      refine aF 13 (by kernel_rfl) rfl (fun K hK=>?_)
      go_simp
      refine hK _ _ ⟨fun h=>absurd rfl h,?_⟩
      have X':=al RU
      have XR:=al RR
      clear hK K Px NB Fx ho Dp RU RR Rw
      refine aZ (by kernel_rfl) ?_
      go_wp2
      go_roundg (m.aQ.length-(k+1))
      case measure=>have:=ab ki;have:=ab dV;omega
      case rel=>exact ⟨k+1,_,by go_num,rfl,ab dV,X',XR⟩
     ·obtain rfl:k=m.aQ.length:=by omega
      have hO:=ab lM
      rw[List.take_length] at hO
      have XQ:=al hO
      clear hO lM
      obtain ⟨c0,c1,c2,c3⟩:=NZ (ab uQ).dj
      have ss:¬(m.aQ.length:Int)<(m.aQ.length:Int):=by omega
      have iD:=al (show w0.heap.size≤wr.heap.size from Nat.le_trans (ab HB).size (ab uQ).bV.size)
      have XP:=al ((ab HO).kept (show wo.grownBy wr none from ⟨(ab uQ).bV.os,(ab uQ).bV.tape,(ab uQ).bV.output,(ab uQ).bV.size,fun q hq _=>(ab uQ).bV.block q hq⟩) (by cases u3.ownBlock with|none=>exact .inl rfl|some q=>exact .inr (by simp)))
      have u6:=al ((ab HB).trans ((ab uQ).bV.mono (ab HB).size))
      obtain ⟨ao,co,rfl⟩:=bq (ab HO)
      go_wp2_with (at_builtin;refine wpList_append_own_at _ rfl _ _ 24 rfl w0.heap.size 67 i0 (.agg #[.string ByteArray.empty,.slice none 0 0,.slice none 0 0,.slice none 0 0]) 4 88 Tryz.underlying24 hi gf fX dY rfl (by decide) _ _ _ rfl ((ab XP).alloc _) ⟨wr.heap.size,0,none⟩ 1 1 [.string m.name,.slice AU m.aQ.length AT,.slice O5 m.res.length O0,.slice O6 m.gone.length O3] rfl rfl (pL _ _ _) (by simp[Value.oneCell']) (by have:=ab bu;unfold maxLen;omega) (by have:=ab bu;have:=ab Hl;omega) (by rw[zJ];have:=ab iD;omega) ?_;intro v' w2 ho ed _ dZ;have XO:=al ho;have X7:=al (J9 (ab HO) (ab S1) (ab uQ) (ab XQ) (ab Xm) (ab HB).size (ab Hr) ((zE _ _).alloc (zD _) _) ed dZ);have JD:=al (((ab u6).alloc (ab u6).size _).grown ed (by rw[zJ];have:=ab iD;omega) (fun q e=>((ab HO).lt q e).1));clear ho ed dZ)
      go_roundg (l.length-(i+1))
      case measure=>have:=ab bz;have:=ab bu;omega
      case rel=>exact ⟨i+1,_,by go_num,rfl,ab bu,XO,X7,JD⟩
  ·obtain rfl:i=l.length:=by omega
   have hE:=ab S1
   rw[List.take_length] at hE
   have P7:=al hE
   clear hE
   go_wp2
   go_ret
   exact ⟨_,_,rfl,ab HO,ab P7,ab HB⟩
end Go.Proofs.YtichhjfjcinjgaaGreatDoor

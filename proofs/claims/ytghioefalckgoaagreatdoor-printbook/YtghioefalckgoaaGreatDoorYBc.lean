import Derived.Test.YtghioefalckgoaaGreatDoorM34
set_option maxHeartbeats 4000000
set_option maxRecDepth 100000
namespace Go.Proofs.YtghioefalckgoaaGreatDoor
open Go.RowKit
attribute [local go_sem ↓] Go.wp_at_zero Go.wp_at_succ
theorem QE:(Tryz.prog.info? 65).map (fun i=>(i.zero,i.size,i.bytes))=some (some (.agg #[.string ByteArray.empty,.int .i64 0]),2,24):=by kernel_rfl
theorem QF:(Tryz.prog.info? 63).map (fun i=>(i.zero,i.size,i.bytes))=some (some (.agg #[.string ByteArray.empty,.slice none 0 0,.slice none 0 0,.slice none 0 0]),4,88):=by kernel_rfl
theorem Mh {l:List (ByteArray×Int)}{i:Nat}{x:ByteArray×Int} (h:l[i]?=some x):mR (l.take (i+1))=mR (l.take i)++[.string x.1,.int .i64 x.2]:=by
 rw[dB h]
 unfold mR
 rw[List.flatMap_append]
 simp
def LK (e:En):Prop:=e.aW.length*24≤140737488355328∧e.res.length*16≤140737488355328∧e.gone.length*16≤140737488355328
def Rest (B:Nat) (v:Value) (g:Nat):Prop:=B≤g∧v.ownBlock≠some g
theorem eC {P:Program}{md:Region.Mode}{ops:Array Oper}{Q:Exit→Act→World→Prop}{T:World→Prop}{z:Nat} (i j:Nat) {oi oj:Oper}{n:Nat}{d:Array Bool}{a:Act}{w:World} (hr:Region.ready md ops d=[i,j]) (hi:ops[i]?=some oi) (hj:ops[j]?=some oj)
  (h1:∀K:Act→World→Prop,(∀a' w',((i≠z→T w')∧ba P md ops Q T z n (d.setIfInBounds i true) a' w')→K a' w')→if Region.wanted oi (yielded ops a.tmps)=true then Oper.wp P oi a w K Q else K (a.put oi.dst undef) w)
  (h2:∀K:Act→World→Prop,(∀a' w',((j≠z→T w')∧ba P md ops Q T z n (d.setIfInBounds j true) a' w')→K a' w')→if Region.wanted oj (yielded ops a.tmps)=true then Oper.wp P oj a w K Q else K (a.put oj.dst undef) w):ba P md ops Q T z (n+1) d a w:=by
 refine ⟨fun h0=>(by rw[h0] at hr;cases hr),fun k hk=>?_⟩
 rw[hr] at hk
 rcases (by simpa using hk:k=i∨k=j) with rfl|rfl
 ·exact wpOp_step hi h1
 ·exact wpOp_step hj h2
theorem mB {B B':Nat}{w:World}{e size n:Nat}{v:Value}{xs:List Value} (h:w.ownsRow B e size v n xs) (hb:B'≤B):w.ownsRow B' e size v n xs:=by
 obtain ⟨h1,h|⟨g,cap,cur,rfl,h2,h3⟩⟩:=h
 ·exact ⟨h1,.inl h⟩
 ·exact ⟨h1,.inr ⟨g,cap,cur,rfl,Nat.le_trans hb h2,h3⟩⟩
theorem aN {B:Nat}{w:World}{e size n:Nat}{v:Value}{xs:List Value} (h:w.ownsRow B e size v n xs):∃a c,v=.slice a n c:=by
 obtain ⟨h1,⟨rfl,rfl⟩|⟨g,cap,cur,rfl,h2,h3⟩⟩:=h
 ·exact ⟨_,_,rfl⟩
 ·exact ⟨_,_,rfl⟩
structure z7 (wr w:World) (b:Nat) (uv ur ug:Value) (m:En):Prop where
 bh:Below wr.heap.size wr w
 low:wr.heap.size≤b
 cH:w.heap[b]?=some (.cells #[.string m.name,uv,ur,ug] 63 (0,0))
 r:w.ownsRow wr.heap.size 83 2 ur m.res.length (eP m.res)
 g:w.ownsRow wr.heap.size 9 1 ug m.gone.length (bj m.gone)
theorem eS {B:Nat}{w:World}{e size n b t:Nat}{v:Value}{xs:List Value}{cs:Array Value}{fr:Nat×Nat} (h:w.ownsRow B e size v n xs) (hb:w.heap[b]?=some (.cells cs t fr)) (ht:e≠t):v.ownBlock≠some b:=by
 intro hv
 obtain ⟨h1,⟨rfl,_⟩|⟨g,cap,cur,rfl,_,h4,_⟩⟩:=h
 ·cases hv
 ·obtain rfl:g=b:=by simpa[Value.ownBlock] using hv
  rw[h4] at hb
  simp at hb
  exact ht hb.2.1
theorem mA {B B':Nat}{w:World}{e e' size Uz n n':Nat}{v u:Value}{xs ys:List Value} (h:w.ownsRow B e size v n xs) (k:w.ownsRow B' e' Uz u n' ys) (ht:e≠e'):u.ownBlock=none∨u.ownBlock≠v.ownBlock:=by
 cases hu:u.ownBlock with
 |none=>exact .inl rfl
 |some q =>
  obtain ⟨k1,⟨rfl,_⟩|⟨g,cap,cur,rfl,_,h4,_⟩⟩:=k
  ·cases hu
  ·obtain rfl:g=q:=by simpa[Value.ownBlock] using hu
   exact .inr (fun e=>eS h h4 ht e.symm)
theorem z7.ku {wr w w':World}{b:Nat}{uv ur ug:Value}{m:En} (h:z7 wr w b uv ur ug m) {k:Option Nat} (hg:w.grownBy w' k) (h1:∀j,k=some j→wr.heap.size≤j) (h2:k≠some b) (h3:ur.ownBlock=none∨ur.ownBlock≠k) (h4:ug.ownBlock=none∨ug.ownBlock≠k):z7 wr w' b uv ur ug m :=
 ⟨h.bh.grown hg h.bh.size h1,h.low,(hg.block _ (zA h.cH).1 (fun e=>h2 e.symm)).trans h.cH,h.r.kept hg h3,h.g.kept hg h4⟩
theorem z7.below {wr w w':World}{b:Nat}{uv ur ug:Value}{m:En} (h:z7 wr w b uv ur ug m) (hb:Below w.heap.size w w'):z7 wr w' b uv ur ug m :=
 ⟨h.bh.trans (hb.mono h.bh.size),h.low,(hb.block _ (zA h.cH).1).trans h.cH,cM h.r hb,cM h.g hb⟩
theorem z7.new {wr w:World}{b:Nat}{ur ug x0 x1 x2 x3:Value}{m:En} (hb:Below wr.heap.size wr w) (cK:wr.heap.size≤b) (hk:w.heap[b]?=some (.cells #[x0,x1,x2,x3] 63 (0,0))) (hr:w.ownsRow wr.heap.size 83 2 ur m.res.length (eP m.res)) (hg:w.ownsRow wr.heap.size 9 1 ug m.gone.length (bj m.gone)) :
  z7 wr ((((w.setCell ⟨b,0,none⟩ (.string m.name)).setCell ⟨b,1,none⟩ (.slice none 0 0)).setCell ⟨b,2,none⟩ ur).setCell ⟨b,3,none⟩ ug) b (.slice none 0 0) ur ug m:=by
 obtain ⟨a1,a2⟩:=aI (j:=0) hk (.string m.name)
 obtain ⟨b1,b2⟩:=aI (j:=1) a1 (.slice none 0 0)
 obtain ⟨c1,c2⟩:=aI (j:=2) b1 ur
 obtain ⟨d1,d2⟩:=aI (j:=3) c1 ug
 have jB:=((a2.trans b2).trans c2).trans d2
 exact ⟨hb.grown jB hb.size (fun k e=>by obtain rfl:=zC e;exact cK),cK,d1,hr.kept jB (.inr (eS hr hk (by decide))),hg.kept jB (.inr (eS hg hk (by decide)))⟩
theorem z7.val {wr w:World}{b:Nat}{uv ur ug:Value}{m:En} (h:z7 wr w b uv ur ug m) (u:Value):z7 wr (w.setCell ⟨b,1,none⟩ u) b u ur ug m∧w.grownBy (w.setCell ⟨b,1,none⟩ u) (some b):=by
 obtain ⟨a1,a2⟩:=aI (j:=1) h.cH u
 exact ⟨⟨h.bh.grown a2 h.bh.size (fun k e=>by obtain rfl:=zC e;exact h.low),h.low,a1,h.r.kept a2 (.inr (eS h.r h.cH (by decide))),h.g.kept a2 (.inr (eS h.g h.cH (by decide)))⟩,a2⟩
theorem MD {w0 wo wr wy w2:World}{v3 v' uv ur ug:Value}{fI:List Value}{l:List En}{i b:Nat}{m:En} (hO:wo.ownsRow w0.heap.size 63 4 v3 i fI) (hE:py (Rest w0.heap.size v3) wo fI (l.take i)) (hC:z7 wo wr b uv ur ug m) (hV:wr.ownsRow wo.heap.size 65 2 uv m.aW.length (mR m.aW)) (hm:LK m) (hB:w0.heap.size≤wo.heap.size) (hr:l[i]?=some m)
  (hy:Below wr.heap.size wr wy) (hg:wy.grownBy w2 v3.ownBlock) (cI:v'.ownBlock=v3.ownBlock∨v'.ownBlock=some wy.heap.size):py (Rest w0.heap.size v') w2 (fI++[.string m.name,uv,ur,ug]) (l.take (i+1)):=by
 obtain ⟨Q8,O7,hm3⟩:=hm
 have pA:=hC.bh.size
 have ff:=hy.size
 rw[dB hr]
 refine (hE.mono (R':=Rest w0.heap.size v') (fun g bG hl=>?_)).app (.cons ((bP hV (by omega)).mono ?_) ((bP hC.r (by omega)).mono ?_) ((bP hC.g (by omega)).mono ?_) .nil)
 ·refine ⟨((hg.block g (by omega) (fun e=>bG.2 e.symm)).trans (hy.block g (by omega))).trans (hC.bh.block g hl),bG.1,?_⟩
  rcases cI with e|e
  ·rw[e];exact bG.2
  ·rw[e];intro q;obtain rfl:=zC q;omega
 all_goals
  intro g bG hl
  have jN:v3.ownBlock≠some g:=fun e=>by have:=(hO.lt g e).2;omega
  refine ⟨(hg.block g (by omega) (fun e=>jN e.symm)).trans (hy.block g (by omega)),by omega,?_⟩
  rcases cI with e|e
  ·rw[e];exact jN
  ·rw[e];intro q;obtain rfl:=zC q;omega
theorem xR {W:World}{v:Value}{l:List En}{cs:List Value} (hv:Rl W v l.length cs) (he:qV W cs l) (hl:l.length*88≤140737488355328) (hz:∀e ∈ l,LK e) (w0:World) (hw:Below W.heap.size W w0) :
  Calls Tryz.prog 23 #[v] w0 fun e w=>∃u fI,e=.returned u∧w.ownsRow w0.heap.size 63 4 u l.length fI∧py (Rest w0.heap.size u) w fI l∧Below w0.heap.size w0 w:=by
 obtain ⟨a,c,rfl,hn,h2⟩:=hv
 obtain ⟨i0,hi,fX,gp,fJ⟩:=info_parts QF
 obtain ⟨j0,hj,jz0,jz1,jz2⟩:=info_parts QE
 have H2:=ak h2
 have HW:=ak hw
 have Hl:=ak hl
 have Hes:=ak he
 have Hz:=ak hz
 clear h2 hw hl he hz
 go_enter Tryz.func23,Tryz.ntmps23
 go_wp2
 go_loopg [3,4,5,6] l.length (fun gk v3 v4 _ _ wr=>∃(i:Nat) (fI:List Value),v4=.int .i64 (i:Int)∧gk=l.length-i∧i≤l.length∧Hid (wr.ownsRow w0.heap.size 63 4 v3 i fI)∧Hid (py (Rest w0.heap.size v3) wr fI (l.take i))∧Hid (Below w0.heap.size w0 wr))
 case atStart=>exact ⟨0,[],rfl,rfl,by omega,⟨rfl,.inl ⟨rfl,rfl⟩⟩,.nil,zE _ _⟩
 case round =>
  obtain ⟨i,fI,rfl,bd,fY,HO,Xk,HB⟩:=hrel
  have bH:=ak bd
  clear bd
  obtain ⟨wo,lM⟩:∃x,x=wr:=⟨_,rfl⟩
  subst lM
  by_cases aU:i<l.length
  ·obtain ⟨g,o,rfl,hg,hc⟩:=ab H2 (by omega)
   have hr:=List.getElem?_eq_getElem aU
   have bQ:=List.getElem_mem aU
   obtain ⟨m,ma⟩:∃m,l[i]=m:=⟨_,rfl⟩
   rw[ma] at hr bQ
   obtain ⟨vv,vr,vg,gD,UW,D2,D3⟩:=(ab Hes).at i m hr
   have dh:=ak (show Below W.heap.size W wo from (ab HW).trans ((ab HB).mono (ab HW).size))
   have dE:Hid (∀w',Below W.heap.size W w'→w'.cell? ⟨g,o+i*4,none⟩=some (.string m.name)∧w'.cell? ⟨g,o+i*4+1,none⟩=some vv∧w'.cell? ⟨g,o+i*4+2,none⟩=some vr∧w'.cell? ⟨g,o+i*4+3,none⟩=some vg):=by
    intro w' hb
    have key:∀(j:Nat) (x:Value),[Value.string m.name,vv,vr,vg][j]?=some x→w'.cell? ⟨g,o+(i*4+j),none⟩=some x:=fun j x hx=>(hb.cell (p:=⟨g,o+(i*4+j),none⟩) hg).trans (hc _ _ (by
     rw[←gD,List.getElem?_take,List.getElem?_drop] at hx
     split at hx
     ·exact hx
     ·cases hx))
    exact ⟨key 0 _ rfl,key 1 _ rfl,key 2 _ rfl,key 3 _ rfl⟩
   have HR:=ak (fun w' hb=>uM D2 (ab Hz m bQ).2.1 w' hb)
   have HT:=ak (fun w' hb=>mx D3 (ab Hz m bQ).2.2 w' hb)
   obtain ⟨av,cv,rfl,Ng,QV⟩:=UW
   obtain ⟨ar,cr,rfl,-,-⟩:=D2
   obtain ⟨ag,cg,rfl,-,-⟩:=D3
   have HV3:=ak QV
   have Fo:(0:Int)≤(i:Int):=zH _
   have i1:(i:Int)<(l.length:Int):=by omega
   have bn:=ak aU
   have Hmz:=ak (ab Hz m bQ)
   have Hr:=ak hr
   have eZ:=ak (ab HB).size
   clear hc bQ ma gD QV aU hr
   go_upto_region 5 with fail
   go_cut [5] (fun v5 wx=>∃(b:Nat) (ur ug:Value),v5=.pointer (some ⟨b,0,none⟩)∧Hid (z7 wo wx b (.slice none 0 0) ur ug m))
   case first =>
    refine wp_region_any (by kernel_rfl) (aV (z:=99) (T:=fun w'=>Below W.heap.size W w') _ _ _ _ ?_)
    try (change ba _ _ _ _ _ _ _ _ _ (World.drew _))
    have bf:Below W.heap.size W wo.drew:=below_drewN (ab dh) 1
    have bC:Below wo.heap.size wo wo.drew:=below_drewN (zE wo.heap.size wo) 1
    obtain ⟨wd,lP⟩:∃x,wo.drew=x:=⟨_,rfl⟩
    rw[lP] at bf bC ⊢
    have hT:=bf
    refine aw 0 (.slice (some ⟨g,o,none⟩) l.length c) 13 rfl rfl (Or.inl ⟨by rfl,fun w' hw=>by obtain ⟨x0,x1,x2,x3⟩:=ab dE w' hw;go_simp⟩) hT ?_
    simp only[Act.put,zL,zM,zN]
    refine aw 1 (.int .i64 (i:Int)) 14 rfl rfl (Or.inl ⟨by rfl,fun w' hw=>by obtain ⟨x0,x1,x2,x3⟩:=ab dE w' hw;go_simp⟩) hT ?_
    simp only[Act.put,zL,zM,zN]
    refine aw 2 (.pointer (some ⟨g,o+i*4,none⟩)) 15 rfl rfl (Or.inl ⟨by rfl,fun w' hw=>by obtain ⟨x0,x1,x2,x3⟩:=ab dE w' hw;go_simp⟩) hT ?_
    simp only[Act.put,zL,zM,zN]
    refine aw 3 (.pointer (some ⟨g,o+i*4,none⟩)) 16 rfl rfl (Or.inl ⟨by rfl,fun w' hw=>by obtain ⟨x0,x1,x2,x3⟩:=ab dE w' hw;go_simp⟩) hT ?_
    simp only[Act.put,zL,zM,zN]
    refine aw 4 (.string m.name) 17 rfl rfl (Or.inl ⟨by rfl,fun w' hw=>by obtain ⟨x0,x1,x2,x3⟩:=ab dE w' hw;go_simp⟩) hT ?_
    simp only[Act.put,zL,zM,zN]
    refine aw 5 (.slice (some ⟨g,o,none⟩) l.length c) 18 rfl rfl (Or.inl ⟨by rfl,fun w' hw=>by obtain ⟨x0,x1,x2,x3⟩:=ab dE w' hw;go_simp⟩) hT ?_
    simp only[Act.put,zL,zM,zN]
    refine aw 6 (.int .i64 (i:Int)) 19 rfl rfl (Or.inl ⟨by rfl,fun w' hw=>by obtain ⟨x0,x1,x2,x3⟩:=ab dE w' hw;go_simp⟩) hT ?_
    simp only[Act.put,zL,zM,zN]
    refine aw 7 (.pointer (some ⟨g,o+i*4,none⟩)) 20 rfl rfl (Or.inl ⟨by rfl,fun w' hw=>by obtain ⟨x0,x1,x2,x3⟩:=ab dE w' hw;go_simp⟩) hT ?_
    simp only[Act.put,zL,zM,zN]
    refine aw 8 (.pointer (some ⟨g,o+i*4+2,none⟩)) 21 rfl rfl (Or.inl ⟨by rfl,fun w' hw=>by obtain ⟨x0,x1,x2,x3⟩:=ab dE w' hw;go_simp⟩) hT ?_
    simp only[Act.put,zL,zM,zN]
    refine aw 9 (.slice ar m.res.length cr) 22 rfl rfl (Or.inl ⟨by rfl,fun w' hw=>by obtain ⟨x0,x1,x2,x3⟩:=ab dE w' hw;go_simp⟩) hT ?_
    simp only[Act.put,zL,zM,zN]
    refine aw 11 (.slice (some ⟨g,o,none⟩) l.length c) 24 rfl rfl (Or.inl ⟨by rfl,fun w' hw=>by obtain ⟨x0,x1,x2,x3⟩:=ab dE w' hw;go_simp⟩) hT ?_
    simp only[Act.put,zL,zM,zN]
    refine aw 12 (.int .i64 (i:Int)) 25 rfl rfl (Or.inl ⟨by rfl,fun w' hw=>by obtain ⟨x0,x1,x2,x3⟩:=ab dE w' hw;go_simp⟩) hT ?_
    simp only[Act.put,zL,zM,zN]
    refine aw 13 (.pointer (some ⟨g,o+i*4,none⟩)) 26 rfl rfl (Or.inl ⟨by rfl,fun w' hw=>by obtain ⟨x0,x1,x2,x3⟩:=ab dE w' hw;go_simp⟩) hT ?_
    simp only[Act.put,zL,zM,zN]
    refine aw 14 (.pointer (some ⟨g,o+i*4+3,none⟩)) 27 rfl rfl (Or.inl ⟨by rfl,fun w' hw=>by obtain ⟨x0,x1,x2,x3⟩:=ab dE w' hw;go_simp⟩) hT ?_
    simp only[Act.put,zL,zM,zN]
    refine aw 15 (.slice ag m.gone.length cg) 28 rfl rfl (Or.inl ⟨by rfl,fun w' hw=>by obtain ⟨x0,x1,x2,x3⟩:=ab dE w' hw;go_simp⟩) hT ?_
    simp only[Act.put,zL,zM,zN]
    clear hT
    refine eC 10 18 (by kernel_rfl) rfl rfl (fun K hK=>?_) (fun K hK=>?_)
    ·refine aM 23 rfl rfl 44 (fun vs=>by kernel_rfl) #[.tmp 22] #[55] rfl #[.slice ar m.res.length cr] (by first|rfl|simp[Act.eval]) (ab HR wd bf) ?_
     rintro e' zR ⟨u1,rfl,cT,aT⟩
     obtain ⟨Ie,Ic,rfl⟩:=aN cT
     have hD:wo.heap.size≤wd.heap.size:=bC.size
     have cT:=mB cT hD
     have bC:=bC.trans (aT.mono bC.size)
     have bf:=bf.trans (aT.mono bf.size)
     refine ⟨_,rfl,hK _ _ ⟨fun _=>bf,?_⟩⟩
     clear hK K aT hD
     simp only[Act.put,zL,zM,zN]
     refine eC 16 18 (by kernel_rfl) rfl rfl (fun K hK=>?_) (fun K hK=>?_)
     ·refine aM 29 rfl rfl 21 (fun vs=>by kernel_rfl) #[.tmp 28] #[22] rfl #[.slice ag m.gone.length cg] (by first|rfl|simp[Act.eval]) (ab HT zR bf) ?_
      rintro e' BK ⟨u2,rfl,fg,aT⟩
      have cT:=cM cT aT
      obtain ⟨L8,L7,rfl⟩:=aN fg
      have kC:wo.heap.size≤zR.heap.size:=bC.size
      have fg:=mB fg kC
      have bC:=bC.trans (aT.mono bC.size)
      have bf:=bf.trans (aT.mono bf.size)
      refine ⟨_,rfl,hK _ _ ⟨fun _=>bf,?_⟩⟩
      clear hK K aT kC
      simp only[Act.put,zL,zM,zN]
      have hT:=bf
      refine aw 17 (.agg #[.string m.name,.slice none 0 0,.slice Ie (m.res.length) Ic,.slice L8 (m.gone.length) L7]) 30 rfl rfl (Or.inl ⟨by rfl,fun w' hw=>by go_simp⟩) hT ?_
      simp only[Act.put,zL,zM,zN]
      clear hT
      refine aB 18 (by kernel_rfl) rfl (fun K hK=>?_)
      obtain ⟨BZ,br⟩:∃x,BK.alloc (.cells #[.string ⟨#[]⟩,.slice none 0 0,.slice none 0 0,.slice none 0 0] 63)=x:=⟨_,rfl⟩
      have aT:Below BK.heap.size BK BZ:=by rw[←br];exact (zE _ _).alloc (zD _) _
      have bA:BZ.heap[BK.heap.size]?=some (.cells #[.string ⟨#[]⟩,.slice none 0 0,.slice none 0 0,.slice none 0 0] 63 (0,0)):=by rw[←br];exact aE _ _
      have cK:wo.heap.size≤BK.heap.size:=bC.size
      go_simp
      have cT:=cM cT aT
      have fg:=cM fg aT
      have bC:=bC.trans (aT.mono bC.size)
      have bf:=bf.trans (aT.mono bf.size)
      refine hK _ _ ⟨fun _=>bf,?_⟩
      clear hK K br aT
      refine aB 19 (by kernel_rfl) rfl (fun K hK=>?_)
      obtain ⟨b,dJ⟩:∃b,BK.heap.size=b:=⟨_,rfl⟩
      rw[dJ] at bA cK ⊢
      obtain ⟨c0,c1,c2,c3⟩:=RL bA
      have z:∀j,BZ.frozen? ⟨b,j,none⟩=false:=fun j=>by simp[World.frozen?,bA]
      have z0:=z 0
      have z1:=z 1
      have z2:=z 2
      have z3:=z 3
      have hC:=z7.new (m:=m) bC cK bA cT fg
      go_simp
      refine hK _ _ ⟨fun _=>(ab dh).trans (hC.bh.mono (ab dh).size),?_⟩
      clear hK K
      refine aQ (by kernel_rfl) ?_
      have HC:=ak hC
      clear hC bC bf cK bA z z0 z1 z2 z3 c0 c1 c2 c3 cT fg
      go_wp2_with fail
      go_meet
      exact ⟨b,_,_,rfl,HC⟩
     ·obtain ⟨Gx,br⟩:∃x,zR.alloc (.cells #[.string ⟨#[]⟩,.slice none 0 0,.slice none 0 0,.slice none 0 0] 63)=x:=⟨_,rfl⟩
      have aT:Below zR.heap.size zR Gx:=by rw[←br];exact (zE _ _).alloc (zD _) _
      have bA:Gx.heap[zR.heap.size]?=some (.cells #[.string ⟨#[]⟩,.slice none 0 0,.slice none 0 0,.slice none 0 0] 63 (0,0)):=by rw[←br];exact aE _ _
      have cK:wo.heap.size≤zR.heap.size:=bC.size
      go_simp
      have cT:=cM cT aT
      have bC:=bC.trans (aT.mono bC.size)
      have bf:=bf.trans (aT.mono bf.size)
      refine hK _ _ ⟨fun _=>bf,?_⟩
      clear hK K br aT
      refine aB 16 (by kernel_rfl) rfl (fun K hK=>?_)
      refine aM 29 rfl rfl 21 (fun vs=>by kernel_rfl) #[.tmp 28] #[22] rfl #[.slice ag m.gone.length cg] (by first|rfl|simp[Act.eval]) (ab HT Gx bf) ?_
      rintro e' OE ⟨u5,rfl,D5,aT⟩
      have cT:=cM cT aT
      obtain ⟨Zu,Y',rfl⟩:=aN D5
      have vY:wo.heap.size≤Gx.heap.size:=bC.size
      have D5:=mB D5 vY
      have bC:=bC.trans (aT.mono bC.size)
      have bf:=bf.trans (aT.mono bf.size)
      have bA:=(aT.block _ (zA bA).1).trans bA
      refine ⟨_,rfl,hK _ _ ⟨fun _=>bf,?_⟩⟩
      clear hK K aT vY
      simp only[Act.put,zL,zM,zN]
      have hT:=bf
      refine aw 17 (.agg #[.string m.name,.slice none 0 0,.slice Ie (m.res.length) Ic,.slice Zu (m.gone.length) Y']) 30 rfl rfl (Or.inl ⟨by rfl,fun w' hw=>by go_simp⟩) hT ?_
      simp only[Act.put,zL,zM,zN]
      clear hT
      refine aB 19 (by kernel_rfl) rfl (fun K hK=>?_)
      obtain ⟨b,dJ⟩:∃b,zR.heap.size=b:=⟨_,rfl⟩
      rw[dJ] at bA cK ⊢
      obtain ⟨c0,c1,c2,c3⟩:=RL bA
      have z:∀j,OE.frozen? ⟨b,j,none⟩=false:=fun j=>by simp[World.frozen?,bA]
      have z0:=z 0
      have z1:=z 1
      have z2:=z 2
      have z3:=z 3
      have hC:=z7.new (m:=m) bC cK bA cT D5
      go_simp
      refine hK _ _ ⟨fun _=>(ab dh).trans (hC.bh.mono (ab dh).size),?_⟩
      clear hK K
      refine aQ (by kernel_rfl) ?_
      have HC:=ak hC
      clear hC bC bf cK bA z z0 z1 z2 z3 c0 c1 c2 c3 cT D5
      go_wp2_with fail
      go_meet
      exact ⟨b,_,_,rfl,HC⟩
    ·obtain ⟨OD,br⟩:∃x,wd.alloc (.cells #[.string ⟨#[]⟩,.slice none 0 0,.slice none 0 0,.slice none 0 0] 63)=x:=⟨_,rfl⟩
     have aT:Below wd.heap.size wd OD:=by rw[←br];exact (zE _ _).alloc (zD _) _
     have bA:OD.heap[wd.heap.size]?=some (.cells #[.string ⟨#[]⟩,.slice none 0 0,.slice none 0 0,.slice none 0 0] 63 (0,0)):=by rw[←br];exact aE _ _
     have cK:wo.heap.size≤wd.heap.size:=bC.size
     go_simp
     have bC:=bC.trans (aT.mono bC.size)
     have bf:=bf.trans (aT.mono bf.size)
     refine hK _ _ ⟨fun _=>bf,?_⟩
     clear hK K br aT
     refine aB 10 (by kernel_rfl) rfl (fun K hK=>?_)
     refine aM 23 rfl rfl 44 (fun vs=>by kernel_rfl) #[.tmp 22] #[55] rfl #[.slice ar m.res.length cr] (by first|rfl|simp[Act.eval]) (ab HR OD bf) ?_
     rintro e' PV ⟨u7,rfl,Q4,aT⟩
     obtain ⟨ua7,uc7,rfl⟩:=aN Q4
     have O':wo.heap.size≤OD.heap.size:=bC.size
     have Q4:=mB Q4 O'
     have bC:=bC.trans (aT.mono bC.size)
     have bf:=bf.trans (aT.mono bf.size)
     have bA:=(aT.block _ (zA bA).1).trans bA
     refine ⟨_,rfl,hK _ _ ⟨fun _=>bf,?_⟩⟩
     clear hK K aT O'
     simp only[Act.put,zL,zM,zN]
     refine aB 16 (by kernel_rfl) rfl (fun K hK=>?_)
     refine aM 29 rfl rfl 21 (fun vs=>by kernel_rfl) #[.tmp 28] #[22] rfl #[.slice ag m.gone.length cg] (by first|rfl|simp[Act.eval]) (ab HT PV bf) ?_
     rintro e' YP ⟨u8,rfl,JH,aT⟩
     have Q4:=cM Q4 aT
     obtain ⟨Zt,Y9,rfl⟩:=aN JH
     have O9:wo.heap.size≤PV.heap.size:=bC.size
     have JH:=mB JH O9
     have bC:=bC.trans (aT.mono bC.size)
     have bf:=bf.trans (aT.mono bf.size)
     have bA:=(aT.block _ (zA bA).1).trans bA
     refine ⟨_,rfl,hK _ _ ⟨fun _=>bf,?_⟩⟩
     clear hK K aT O9
     simp only[Act.put,zL,zM,zN]
     have hT:=bf
     refine aw 17 (.agg #[.string m.name,.slice none 0 0,.slice ua7 (m.res.length) uc7,.slice Zt (m.gone.length) Y9]) 30 rfl rfl (Or.inl ⟨by rfl,fun w' hw=>by go_simp⟩) hT ?_
     simp only[Act.put,zL,zM,zN]
     clear hT
     refine aB 19 (by kernel_rfl) rfl (fun K hK=>?_)
     obtain ⟨b,dJ⟩:∃b,wd.heap.size=b:=⟨_,rfl⟩
     rw[dJ] at bA cK ⊢
     obtain ⟨c0,c1,c2,c3⟩:=RL bA
     have z:∀j,YP.frozen? ⟨b,j,none⟩=false:=fun j=>by simp[World.frozen?,bA]
     have z0:=z 0
     have z1:=z 1
     have z2:=z 2
     have z3:=z 3
     have hC:=z7.new (m:=m) bC cK bA Q4 JH
     go_simp
     refine hK _ _ ⟨fun _=>(ab dh).trans (hC.bh.mono (ab dh).size),?_⟩
     clear hK K
     refine aQ (by kernel_rfl) ?_
     have HC:=ak hC
     clear hC bC bf cK bA z z0 z1 z2 z3 c0 c1 c2 c3 Q4 JH
     go_wp2_with fail
     go_meet
     exact ⟨b,_,_,rfl,HC⟩
   case rest =>
    obtain ⟨b,ur,ug,rfl,HC⟩:=hcut
    have HN:Hid (wc.ownsRow wo.heap.size 65 2 (.slice none 0 0) 0 []):=⟨rfl,.inl ⟨rfl,rfl⟩⟩
    obtain ⟨S8,S5,rfl⟩:=aN (ab HC).r
    obtain ⟨S9,S6,rfl⟩:=aN (ab HC).g
    obtain ⟨x0,x1,x2,x3⟩:=ab dE wc ((ab dh).trans ((ab HC).bh.mono (ab dh).size))
    go_wp2_with fail
    clear x0 x1 x2 x3
    go_loopg [6] m.aW.length (fun gk v6 wi=>∃(k:Nat) (uv:Value),v6=.int .i64 (k:Int)∧gk=m.aW.length-k∧k≤m.aW.length∧Hid (z7 wo wi b uv (.slice S8 m.res.length S5) (.slice S9 m.gone.length S6) m)∧Hid (wi.ownsRow wo.heap.size 65 2 uv k (mR (m.aW.take k))))
    case atStart=>exact ⟨0,_,rfl,rfl,by omega,HC,HN⟩
    case round =>
     obtain ⟨k,uv,rfl,jC,ra,nT,jj⟩:=hrel
     have jR:=ak jC
     clear jC HC HN
     obtain ⟨BM,BL,rfl⟩:=aN (ab jj)
     have HBi:=ak (show Below W.heap.size W wr from (ab dh).trans ((ab nT).bh.mono (ab dh).size))
     obtain ⟨x0,x1,x2,x3⟩:=ab dE wr (ab HBi)
     by_cases dC:k<m.aW.length
     ·obtain ⟨gv,ov,rfl,Nn,p8⟩:=ab HV3 (by omega)
      have mH:=List.getElem?_eq_getElem dC
      obtain ⟨y,UU⟩:∃y,m.aW[k]=y:=⟨_,rfl⟩
      rw[UU] at mH
      have xc:Hid (∀w',Below W.heap.size W w'→w'.cell? ⟨gv,ov+k*2,none⟩=some (.string y.1)∧w'.cell? ⟨gv,ov+k*2+1,none⟩=some (.int .i64 y.2)):=fun w' hb =>
       ⟨(hb.cell (p:=⟨gv,ov+(k*2+0),none⟩) Nn).trans (p8 _ _ (kG mH (j:=0) (by decide))),(hb.cell (p:=⟨gv,ov+(k*2+1),none⟩) Nn).trans (p8 _ _ (kG mH (j:=1) (by decide)))⟩
      have W6:=ak (Mh mH)
      have k0':(0:Int)≤(k:Int):=zH _
      have uY:(k:Int)<(m.aW.length:Int):=by omega
      have cP:=ak dC
      clear p8 mH UU dC
      go_upto_region 9 with fail
      refine wp_region_any (by kernel_rfl) (aV (z:=13) (T:=fun w'=>Below W.heap.size W w'∧w'.cell? ⟨b,1,none⟩=some (.slice BM k BL)) _ _ _ _ ?_)
      try (change ba _ _ _ _ _ _ _ _ _ (World.drew _))
      have hC:=(ab nT).below (below_drewN (zE wr.heap.size wr) 1)
      have hO:=cM (ab jj) (below_drewN (zE wr.heap.size wr) 1)
      change z7 _ wr.drew _ _ _ _ _ at hC
      change World.ownsRow wr.drew _ _ _ _ _ _ at hO
      obtain ⟨wd,lP⟩:∃x,wr.drew=x:=⟨_,rfl⟩
      rw[lP] at hC hO ⊢
      have hT:(fun w':World=>Below W.heap.size W w'∧w'.cell? ⟨b,1,none⟩=some (.slice BM k BL)) wd:=⟨(ab dh).trans (hC.bh.mono (ab dh).size),cell_of_row _ _ _ _ _ _ hC.cH⟩
      clear x0 x1 x2 x3
      refine aw 0 (.pointer (some ⟨b,1,none⟩)) 41 rfl rfl (Or.inl ⟨by rfl,fun w' hw=>by obtain ⟨eV,e8⟩:=hw;obtain ⟨x0,x1,x2,x3⟩:=ab dE w' eV;obtain ⟨y0,y1⟩:=ab xc w' eV;go_simp⟩) hT ?_
      simp only[Act.put,zL,zM,zN]
      refine aw 1 (.slice BM k BL) 42 rfl rfl (Or.inl ⟨by rfl,fun w' hw=>by obtain ⟨eV,e8⟩:=hw;obtain ⟨x0,x1,x2,x3⟩:=ab dE w' eV;obtain ⟨y0,y1⟩:=ab xc w' eV;go_simp⟩) hT ?_
      simp only[Act.put,zL,zM,zN]
      refine aw 2 (.slice (some ⟨g,o,none⟩) l.length c) 43 rfl rfl (Or.inl ⟨by rfl,fun w' hw=>by obtain ⟨eV,e8⟩:=hw;obtain ⟨x0,x1,x2,x3⟩:=ab dE w' eV;obtain ⟨y0,y1⟩:=ab xc w' eV;go_simp⟩) hT ?_
      simp only[Act.put,zL,zM,zN]
      refine aw 3 (.int .i64 (i:Int)) 44 rfl rfl (Or.inl ⟨by rfl,fun w' hw=>by obtain ⟨eV,e8⟩:=hw;obtain ⟨x0,x1,x2,x3⟩:=ab dE w' eV;obtain ⟨y0,y1⟩:=ab xc w' eV;go_simp⟩) hT ?_
      simp only[Act.put,zL,zM,zN]
      refine aw 4 (.pointer (some ⟨g,o+i*4,none⟩)) 45 rfl rfl (Or.inl ⟨by rfl,fun w' hw=>by obtain ⟨eV,e8⟩:=hw;obtain ⟨x0,x1,x2,x3⟩:=ab dE w' eV;obtain ⟨y0,y1⟩:=ab xc w' eV;go_simp⟩) hT ?_
      simp only[Act.put,zL,zM,zN]
      refine aw 5 (.pointer (some ⟨g,o+i*4+1,none⟩)) 46 rfl rfl (Or.inl ⟨by rfl,fun w' hw=>by obtain ⟨eV,e8⟩:=hw;obtain ⟨x0,x1,x2,x3⟩:=ab dE w' eV;obtain ⟨y0,y1⟩:=ab xc w' eV;go_simp⟩) hT ?_
      simp only[Act.put,zL,zM,zN]
      refine aw 6 (.slice (some ⟨gv,ov,none⟩) m.aW.length cv) 47 rfl rfl (Or.inl ⟨by rfl,fun w' hw=>by obtain ⟨eV,e8⟩:=hw;obtain ⟨x0,x1,x2,x3⟩:=ab dE w' eV;obtain ⟨y0,y1⟩:=ab xc w' eV;go_simp⟩) hT ?_
      simp only[Act.put,zL,zM,zN]
      refine aw 7 (.int .i64 (k:Int)) 48 rfl rfl (Or.inl ⟨by rfl,fun w' hw=>by obtain ⟨eV,e8⟩:=hw;obtain ⟨x0,x1,x2,x3⟩:=ab dE w' eV;obtain ⟨y0,y1⟩:=ab xc w' eV;go_simp⟩) hT ?_
      simp only[Act.put,zL,zM,zN]
      refine aw 8 (.pointer (some ⟨gv,ov+k*2,none⟩)) 49 rfl rfl (Or.inl ⟨by rfl,fun w' hw=>by obtain ⟨eV,e8⟩:=hw;obtain ⟨x0,x1,x2,x3⟩:=ab dE w' eV;obtain ⟨y0,y1⟩:=ab xc w' eV;go_simp⟩) hT ?_
      simp only[Act.put,zL,zM,zN]
      refine aw 9 (.agg #[.string y.1,.int .i64 y.2]) 50 rfl rfl (Or.inl ⟨by rfl,fun w' hw=>by obtain ⟨eV,e8⟩:=hw;obtain ⟨x0,x1,x2,x3⟩:=ab dE w' eV;obtain ⟨y0,y1⟩:=ab xc w' eV;go_simp⟩) hT ?_
      simp only[Act.put,zL,zM,zN]
      obtain ⟨wy,QT⟩:∃x,wd.alloc (.cells #[.string y.1,.int .i64 y.2] 65)=x:=⟨_,rfl⟩
      have aT:Below wd.heap.size wd wy:=by rw[←QT];exact (zE _ _).alloc (zD _) _
      have hC:=hC.below aT
      have hO:=cM hO aT
      have hT:(fun w':World=>Below W.heap.size W w'∧w'.cell? ⟨b,1,none⟩=some (.slice BM k BL)) wy:=⟨(ab dh).trans (hC.bh.mono (ab dh).size),cell_of_row _ _ _ _ _ _ hC.cH⟩
      have Vg:∀j u,[Value.string y.1,.int .i64 y.2][j]?=some u→wy.cell? ((⟨wd.heap.size,0,none⟩:Addr).add j)=some u:=by rw[←QT];exact xY _ _ _ _
      refine aB 10 (by kernel_rfl) rfl (fun K hK=>?_)
      go_simp
      refine hK _ _ ⟨fun _=>hT,?_⟩
      clear hK K QT aT lP
      refine aB 11 (by kernel_rfl) rfl (fun K hK=>?_)
      refine oq 52 rfl rfl (.tmp 42) (.tmp 51) 61 rfl wo.heap.size 65 j0 (.agg #[.string ByteArray.empty,.int .i64 0]) 2 24 Tryz.underlying61 hj jz0 jz1 jz2 rfl (by decide) (.slice BM k BL) k _ (by first|rfl|simp[Act.eval]) hO ⟨wd.heap.size,0,none⟩ 1 1 [.string y.1,.int .i64 y.2] (by first|rfl|simp[Act.eval]) rfl Vg (by simp[Value.oneCell']) (by have:=ab cP;have:=(ab Hmz).1;unfold maxLen;omega) (by have:=ab cP;have:=(ab Hmz).1;omega) hC.bh.size ?_
      intro v' w2 ho cE _
      have Ea:=hC.ku cE (fun j e=>(hO.lt j e).1) (eS hO hC.cH (by decide)) (mA hO hC.r (by decide)) (mA hO hC.g (by decide))
      obtain ⟨a',c',rfl⟩:=aN ho
      have D':(fun w':World=>Below W.heap.size W w'∧w'.cell? ⟨b,1,none⟩=some (.slice BM k BL)) w2:=⟨(ab dh).trans (Ea.bh.mono (ab dh).size),cell_of_row _ _ _ _ _ _ Ea.cH⟩
      rw[←ab W6] at ho
      refine hK _ _ ⟨fun _=>D',?_⟩
      clear hK K hC hO hT cE Vg
      simp only[Act.put,zL,zM,zN]
      refine aw 12 (.pointer (some ⟨b,1,none⟩)) 53 rfl rfl (Or.inl ⟨by rfl,fun w' hw=>by obtain ⟨eV,e8⟩:=hw;go_simp⟩) D' ?_
      simp only[Act.put,zL,zM,zN]
      have Rj:=D'.2
      have fK:w2.frozen? ⟨b,1,none⟩=false:=by simp[World.frozen?,Ea.cH]
      obtain ⟨VW,Pa⟩:=Ea.val (.slice a' (k+1) c')
      have VS:=ho.kept Pa (.inr (eS ho Ea.cH (by decide)))
      refine aB 13 (by kernel_rfl) rfl (fun K hK=>?_)
      go_simp
      refine hK _ _ ⟨fun h=>absurd rfl h,?_⟩
      have HC3:=ak VW
      have HO3:=ak VS
      clear hK K Rj fK D' ho Ea VW VS Pa
      refine aQ (by kernel_rfl) ?_
      go_wp2
      go_roundg (m.aW.length-(k+1))
      case measure=>have:=ab jR;have:=ab cP;omega
      case rel=>exact ⟨k+1,_,by go_num,rfl,ab cP,HC3,HO3⟩
     ·obtain rfl:k=m.aW.length:=by omega
      have hO:=ab jj
      rw[List.take_length] at hO
      have HO4:=ak hO
      clear hO jj
      obtain ⟨c0,c1,c2,c3⟩:=RL (ab nT).cH
      have uY:¬(m.aW.length:Int)<(m.aW.length:Int):=by omega
      have eZ:=ak (show w0.heap.size≤wr.heap.size from Nat.le_trans (ab HB).size (ab nT).bh.size)
      have HO5:=ak ((ab HO).kept (show wo.grownBy wr none from ⟨(ab nT).bh.os,(ab nT).bh.tape,(ab nT).bh.output,(ab nT).bh.size,fun q hq _=>(ab nT).bh.block q hq⟩) (by cases u3.ownBlock with|none=>exact .inl rfl|some q=>exact .inr (by simp)))
      have LU:=ak ((ab HB).trans ((ab nT).bh.mono (ab HB).size))
      obtain ⟨ao,co,rfl⟩:=aN (ab HO)
      go_wp2_with (at_builtin;refine wpList_append_own_at _ rfl _ _ 24 rfl w0.heap.size 63 i0 (.agg #[.string ByteArray.empty,.slice none 0 0,.slice none 0 0,.slice none 0 0]) 4 88 Tryz.underlying24 hi fX gp fJ rfl (by decide) _ _ _ rfl ((ab HO5).alloc _) ⟨wr.heap.size,0,none⟩ 1 1 [.string m.name,.slice BM m.aW.length BL,.slice S8 m.res.length S5,.slice S9 m.gone.length S6] rfl rfl (cD _ _ _) (by simp[Value.oneCell']) (by have:=ab bn;unfold maxLen;omega) (by have:=ab bn;have:=ab Hl;omega) (by rw[zJ];have:=ab eZ;omega) ?_;intro v' w2 ho cE _ cI;have HO6:=ak ho;have HE6:=ak (MD (ab HO) (ab Xk) (ab nT) (ab HO4) (ab Hmz) (ab HB).size (ab Hr) ((zE _ _).alloc (zD _) _) cE cI);have T2:=ak (((ab LU).alloc (ab LU).size _).grown cE (by rw[zJ];have:=ab eZ;omega) (fun q e=>((ab HO).lt q e).1));clear ho cE cI)
      go_roundg (l.length-(i+1))
      case measure=>have:=ab bH;have:=ab bn;omega
      case rel=>exact ⟨i+1,_,by go_num,rfl,ab bn,HO6,HE6,T2⟩
  ·obtain rfl:i=l.length:=by omega
   have hE:=ab Xk
   rw[List.take_length] at hE
   have T1:=ak hE
   clear hE
   go_wp2
   go_ret
   exact ⟨_,_,rfl,ab HO,ab T1,ab HB⟩
end Go.Proofs.YtghioefalckgoaaGreatDoor

import Derived.Test.YtmlphohdcejniaaGreatDoorVV
set_option maxHeartbeats 8000000
set_option maxRecDepth 100000
namespace Go.Proofs.YtmlphohdcejniaaGreatDoor
open Go.RowKit
attribute [local go_sem ↓] Go.wp_at_zero Go.wp_at_succ
theorem eK {w:World}{b:Nat}{v0 v1 v2 v3:Value}{t:TypeId} (hn:w.heap[b]?=some (.cells #[v0,v1,v2,v3] t (0,0))):w.cell? ⟨b,0,none⟩=some v0∧w.cell? ⟨b,1,none⟩=some v1∧w.cell? ⟨b,2,none⟩=some v2∧w.cell? ⟨b,3,none⟩=some v3 :=
 ⟨cell_of_row _ _ _ _ _ _ hn,cell_of_row _ _ _ _ _ _ hn,cell_of_row _ _ _ _ _ _ hn,cell_of_row _ _ _ _ _ _ hn⟩
structure KH (e:En):Prop where
 nm:e.name.size≤1048576
 vl:e.bL.length≤1048576
 bL:∀p ∈ e.bL,p.1.size≤1048576∧kX p.2
 rl:e.res.length≤1048576
 res:∀p ∈ e.res,kX p.1∧kX p.2
 gl:e.gone.length≤1048576
 gone:∀x ∈ e.gone,x.size≤1048576
def IA (e:En):Nat:=20*e.res.length+10*e.gone.length+20*e.bL.length+80
theorem Ts {x:ByteArray} (h:aR x) (h1:(x.toList==[111,112,116,105,111,110])=false) (h2:(x.toList==[114,101,115,101,114,118,101,100])=false):sX x:=by
 refine ⟨h,?_⟩
 unfold B5
 rw[if_neg,if_neg]
 ·intro e
  have e2:x.data=#[111,112,116,105,111,110]:=eq_of_beq e
  rw[pq,e2] at h1
  revert h1
  decide
 ·intro e
  have e2:x.data=#[114,101,115,101,114,118,101,100]:=eq_of_beq e
  rw[pq,e2] at h2
  revert h2
  decide
theorem Sx:sX ⟨#[120]⟩:=⟨Mq,by unfold B5;rw[if_neg (by decide),if_neg (by decide)]⟩
theorem Xs:sX ⟨#[90]⟩:=⟨by refine ⟨?_,by decide,by decide⟩;kernel_rfl,by unfold B5;rw[if_neg (by decide),if_neg (by decide)]⟩
theorem x8 {W:World}{v:Value}{l:List En}{cs:List Value} (hv:Rl W v l.length cs) (he:E1 W cs l) (hl:l.length≤1048576) (hz:∀e ∈ l,KH e) (w0:World) (hw:Below W.heap.size W w0) :
  Calls Tryz.prog 17 #[v] w0 fun e w=>(∃u kO l',e=.returned u∧w.ownsRow w0.heap.size 68 4 u l.length kO∧eS (Rest w0.heap.size u) w kO l'∧l'.length=l.length∧(∀e ∈ l',EK e)∧bI nQ l'≤bI IA l)∧Below w0.heap.size w0 w:=by
 obtain ⟨a,c,rfl,hn,h2⟩:=hv
 obtain ⟨i0,hi,oH,oG,pQ⟩:=info_parts Ul
 obtain ⟨j0,hj,XV,XU,XT⟩:=info_parts Uk
 have H2:=aj h2
 have HW:=aj hw
 have Hl:=aj hl
 have Hes:=aj he
 have Hz:=aj hz
 clear h2 hw hl he hz
 go_enter Tryz.func17,Tryz.ntmps17
 go_wp2
 go_loopg [3,4,5,6,7,8] l.length (fun gk v3 v4 _ _ _ _ wr=>∃(i:Nat) (kO:List Value) (acc:List En),v4=.int .i64 (i:Int)∧gk=l.length-i∧i≤l.length∧Hid (wr.ownsRow w0.heap.size 68 4 v3 i kO)∧Hid (eS (Rest w0.heap.size v3) wr kO acc)∧Hid (acc.length=i∧(∀e ∈ acc,EK e)∧bI nQ acc≤bI IA (l.take i))∧Hid (Below w0.heap.size w0 wr))
 case atStart=>exact ⟨0,[],[],rfl,rfl,by omega,⟨rfl,.inl ⟨rfl,rfl⟩⟩,.nil,⟨rfl,fun e he=>by (cases he),zD _⟩,zE _ _⟩
 case round =>
  obtain ⟨i,kO,acc,rfl,fi,qz,HO,HES,HAc,HB⟩:=hrel
  have gA:=aj fi
  clear fi
  obtain ⟨wo,Uq⟩:∃x,x=wr:=⟨_,rfl⟩
  subst Uq
  by_cases cw:i<l.length
  ·obtain ⟨g,o,rfl,hg,hc⟩:=aa H2 (by omega)
   obtain ⟨m,hr⟩:∃m,l[i]?=some m:=⟨_,List.getElem?_eq_getElem cw⟩
   have Nc:=List.mem_of_getElem? hr
   obtain ⟨vv,vr,vg,Ux,hvv,Ya,Yc⟩:=(aa Hes).at i m hr
   have kZ:=aj (show Below W.heap.size W wo from (aa HW).trans ((aa HB).mono (aa HW).size))
   have iU:Hid (∀w',Below W.heap.size W w'→w'.cell? ⟨g,o+i*4,none⟩=some (.string m.name)∧w'.cell? ⟨g,o+i*4+1,none⟩=some vv∧w'.cell? ⟨g,o+i*4+2,none⟩=some vr∧w'.cell? ⟨g,o+i*4+3,none⟩=some vg):=by
    intro w' hb
    have key:∀(j:Nat) (x:Value),[Value.string m.name,vv,vr,vg][j]?=some x→w'.cell? ⟨g,o+(i*4+j),none⟩=some x:=fun j x hx=>(hb.cell (p:=⟨g,o+(i*4+j),none⟩) hg).trans (hc _ _ (by
     rw[←Ux,List.getElem?_take,List.getElem?_drop] at hx
     split at hx
     ·exact hx
     ·cases hx))
    exact ⟨key 0 _ rfl,key 1 _ rfl,key 2 _ rfl,key 3 _ rfl⟩
   have jT:=aa Hz m Nc
   have O5:=aj (show m.name.size≤140737488351232 by have:=jT.nm;omega)
   have HR:=aj (fun w' hb=>C' (lo:=-2147483648) (hi:=2147483647) (by decide) (by decide) (by decide) Ya jT.rl jT.res w' hb)
   have HT:=aj (fun w' hb=>zy Yc jT.gl jT.gone w' hb)
   obtain ⟨av,cv,rfl,UC,M3⟩:=hvv
   obtain ⟨ar,cr,rfl,-,-⟩:=Ya
   obtain ⟨ag,cg,rfl,-,-⟩:=Yc
   have Z5:=aj M3
   have i0':(0:Int)≤(i:Int):=zH _
   have i1:(i:Int)<(l.length:Int):=by omega
   have dN:=aj cw
   have Hmz:=aj jT
   have Hr:=aj hr
   clear hc Nc Ux M3 cw hr jT
   go_upto_region 5 with fail
   go_cut [5] (fun v5 wx=>∃(b:Nat) (y:ByteArray) (l1:List (Int×Int)) (l2:List ByteArray) (ur ug:Value),v5=.pointer (some ⟨b,0,none⟩)∧Hid (zv wo wx b (.slice none 0 0) ur ug ⟨y,[],l1,l2⟩)∧Hid (aR y)∧Hid (l1.length=m.res.length∧Cl (-2147483648) 2147483647 l1)∧Hid (l2.length=m.gone.length∧∀x ∈ l2,aR x))
   case first =>
    refine wp_region_any (by kernel_rfl) (cj (z:=99) (T:=fun w'=>Below W.heap.size W w') _ _ _ _ ?_)
    try (change cW _ _ _ _ _ _ _ _ _ (World.drew _))
    have aX:Below W.heap.size W wo.drew:=below_drewN (aa kZ) 1
    have bP:Below wo.heap.size wo wo.drew:=below_drewN (zE wo.heap.size wo) 1
    obtain ⟨wd,iZ⟩:∃x,wo.drew=x:=⟨_,rfl⟩
    rw[iZ] at aX bP ⊢
    have hT:=aX
    refine ak 0 (.slice (some ⟨g,o,none⟩) l.length c) 15 rfl rfl (Or.inl ⟨by rfl,fun w' hw=>by obtain ⟨x0,x1,x2,x3⟩:=aa iU w' hw;go_simp⟩) hT ?_
    simp only[Act.put,zL,zM,zN]
    refine ak 1 (.int .i64 (i:Int)) 16 rfl rfl (Or.inl ⟨by rfl,fun w' hw=>by obtain ⟨x0,x1,x2,x3⟩:=aa iU w' hw;go_simp⟩) hT ?_
    simp only[Act.put,zL,zM,zN]
    refine ak 2 (.pointer (some ⟨g,o+i*4,none⟩)) 17 rfl rfl (Or.inl ⟨by rfl,fun w' hw=>by obtain ⟨x0,x1,x2,x3⟩:=aa iU w' hw;go_simp⟩) hT ?_
    simp only[Act.put,zL,zM,zN]
    refine ak 3 (.pointer (some ⟨g,o+i*4,none⟩)) 18 rfl rfl (Or.inl ⟨by rfl,fun w' hw=>by obtain ⟨x0,x1,x2,x3⟩:=aa iU w' hw;go_simp⟩) hT ?_
    simp only[Act.put,zL,zM,zN]
    refine ak 4 (.string m.name) 19 rfl rfl (Or.inl ⟨by rfl,fun w' hw=>by obtain ⟨x0,x1,x2,x3⟩:=aa iU w' hw;go_simp⟩) hT ?_
    simp only[Act.put,zL,zM,zN]
    refine ak 6 (.slice (some ⟨g,o,none⟩) l.length c) 21 rfl rfl (Or.inl ⟨by rfl,fun w' hw=>by obtain ⟨x0,x1,x2,x3⟩:=aa iU w' hw;go_simp⟩) hT ?_
    simp only[Act.put,zL,zM,zN]
    refine ak 7 (.int .i64 (i:Int)) 22 rfl rfl (Or.inl ⟨by rfl,fun w' hw=>by obtain ⟨x0,x1,x2,x3⟩:=aa iU w' hw;go_simp⟩) hT ?_
    simp only[Act.put,zL,zM,zN]
    refine ak 8 (.pointer (some ⟨g,o+i*4,none⟩)) 23 rfl rfl (Or.inl ⟨by rfl,fun w' hw=>by obtain ⟨x0,x1,x2,x3⟩:=aa iU w' hw;go_simp⟩) hT ?_
    simp only[Act.put,zL,zM,zN]
    refine ak 9 (.pointer (some ⟨g,o+i*4+2,none⟩)) 24 rfl rfl (Or.inl ⟨by rfl,fun w' hw=>by obtain ⟨x0,x1,x2,x3⟩:=aa iU w' hw;go_simp⟩) hT ?_
    simp only[Act.put,zL,zM,zN]
    refine ak 10 (.slice ar m.res.length cr) 25 rfl rfl (Or.inl ⟨by rfl,fun w' hw=>by obtain ⟨x0,x1,x2,x3⟩:=aa iU w' hw;go_simp⟩) hT ?_
    simp only[Act.put,zL,zM,zN]
    refine ak 12 (.slice (some ⟨g,o,none⟩) l.length c) 27 rfl rfl (Or.inl ⟨by rfl,fun w' hw=>by obtain ⟨x0,x1,x2,x3⟩:=aa iU w' hw;go_simp⟩) hT ?_
    simp only[Act.put,zL,zM,zN]
    refine ak 13 (.int .i64 (i:Int)) 28 rfl rfl (Or.inl ⟨by rfl,fun w' hw=>by obtain ⟨x0,x1,x2,x3⟩:=aa iU w' hw;go_simp⟩) hT ?_
    simp only[Act.put,zL,zM,zN]
    refine ak 14 (.pointer (some ⟨g,o+i*4,none⟩)) 29 rfl rfl (Or.inl ⟨by rfl,fun w' hw=>by obtain ⟨x0,x1,x2,x3⟩:=aa iU w' hw;go_simp⟩) hT ?_
    simp only[Act.put,zL,zM,zN]
    refine ak 15 (.pointer (some ⟨g,o+i*4+3,none⟩)) 30 rfl rfl (Or.inl ⟨by rfl,fun w' hw=>by obtain ⟨x0,x1,x2,x3⟩:=aa iU w' hw;go_simp⟩) hT ?_
    simp only[Act.put,zL,zM,zN]
    refine ak 16 (.slice ag m.gone.length cg) 31 rfl rfl (Or.inl ⟨by rfl,fun w' hw=>by obtain ⟨x0,x1,x2,x3⟩:=aa iU w' hw;go_simp⟩) hT ?_
    simp only[Act.put,zL,zM,zN]
    clear hT
    refine dC 5 19 (by kernel_rfl) rfl rfl (fun K hK=>?_) (fun K hK=>?_)
    ·refine aN 20 rfl rfl 22 (fun vs=>by kernel_rfl) #[.tmp 19] #[9] rfl #[.string m.name] (by first|rfl|simp[Act.eval]) (gg wd m.name (aa O5)) ?_
     rintro e' pP ⟨⟨y,hy,rfl⟩,ba⟩
     have Gz:=aj hy
     clear hy
     have bP:=bP.trans (ba.mono bP.size)
     have aX:=aX.trans (ba.mono aX.size)
     refine ⟨_,rfl,hK _ _ ⟨fun _=>aX,?_⟩⟩
     clear hK K ba
     simp only[Act.put,zL,zM,zN]
     refine dC 11 19 (by kernel_rfl) rfl rfl (fun K hK=>?_) (fun K hK=>?_)
     ·refine aN 26 rfl rfl 37 (fun vs=>by kernel_rfl) #[.tmp 25,.const (.int .i64 (-2147483648)),.const (.int .i64 2147483647)] #[62,3,3] rfl #[.slice ar m.res.length cr,.int .i64 (-2147483648),.int .i64 2147483647] (by first|rfl|simp[Act.eval]) (aa HR pP aX) ?_
      rintro e' qX ⟨⟨u1,l1,rfl,fp,eT,xM⟩,ba⟩
      have fp:=eJ fp (show wo.heap.size≤_ from bP.size)
      rw[←eT] at fp
      obtain ⟨I5,I4,rfl⟩:=bn fp
      have Cr:=aj (And.intro eT xM)
      clear eT xM
      have bP:=bP.trans (ba.mono bP.size)
      have aX:=aX.trans (ba.mono aX.size)
      refine ⟨_,rfl,hK _ _ ⟨fun _=>aX,?_⟩⟩
      clear hK K ba
      simp only[Act.put,zL,zM,zN]
      refine dC 17 19 (by kernel_rfl) rfl rfl (fun K hK=>?_) (fun K hK=>?_)
      ·refine aN 32 rfl rfl 38 (fun vs=>by kernel_rfl) #[.tmp 31] #[22] rfl #[.slice ag m.gone.length cg] (by first|rfl|simp[Act.eval]) (aa HT qX aX) ?_
       rintro e' qW ⟨⟨u2,l2,rfl,ep,kK,nM⟩,ba⟩
       have fp:=cz fp ba
       have ep:=eJ ep (show wo.heap.size≤_ from bP.size)
       rw[←kK] at ep
       obtain ⟨E8,E7,rfl⟩:=bn ep
       have sA:=aj (And.intro kK nM)
       clear kK nM
       have bP:=bP.trans (ba.mono bP.size)
       have aX:=aX.trans (ba.mono aX.size)
       refine ⟨_,rfl,hK _ _ ⟨fun _=>aX,?_⟩⟩
       clear hK K ba
       simp only[Act.put,zL,zM,zN]
       have hT:=aX
       refine ak 18 ((.agg #[.string y,.slice none 0 0,.slice I5 l1.length I4,.slice E8 l2.length E7])) 33 rfl rfl (Or.inl ⟨by rfl,fun w' hw=>by go_simp⟩) hT ?_
       simp only[Act.put,zL,zM,zN]
       clear hT
       refine ay 19 (by kernel_rfl) rfl (fun K hK=>?_)
       obtain ⟨A1,ez⟩:∃x,qW.alloc (.cells #[.string ⟨#[]⟩,.slice none 0 0,.slice none 0 0,.slice none 0 0] 68)=x:=⟨_,rfl⟩
       have ba:Below qW.heap.size qW A1:=by rw[←ez];exact (zE _ _).alloc (zD _) _
       have bo:A1.heap[qW.heap.size]?=some (.cells #[.string ⟨#[]⟩,.slice none 0 0,.slice none 0 0,.slice none 0 0] 68 (0,0)):=by rw[←ez];exact aC _ _
       have dI:wo.heap.size≤qW.heap.size:=bP.size
       go_simp
       have fp:=cz fp ba
       have ep:=cz ep ba
       have bP:=bP.trans (ba.mono bP.size)
       have aX:=aX.trans (ba.mono aX.size)
       refine hK _ _ ⟨fun _=>aX,?_⟩
       clear hK K ez ba
       refine ay 20 (by kernel_rfl) rfl (fun K hK=>?_)
       obtain ⟨b,tr⟩:∃b,qW.heap.size=b:=⟨_,rfl⟩
       rw[tr] at bo dI ⊢
       obtain ⟨c0,c1,c2,c3⟩:=eK bo
       have z:∀j,A1.frozen? ⟨b,j,none⟩=false:=fun j=>by simp[World.frozen?,bo]
       have z0:=z 0
       have z1:=z 1
       have z2:=z 2
       have z3:=z 3
       have hC:=zv.new (m:=⟨y,[],l1,l2⟩) bP dI bo fp ep
       go_simp
       refine hK _ _ ⟨fun _=>(aa kZ).trans (hC.eL.mono (aa kZ).size),?_⟩
       clear hK K
       refine bj (by kernel_rfl) ?_
       have HC:=aj hC
       clear hC bP aX dI bo z z0 z1 z2 z3 c0 c1 c2 c3 fp ep
       go_wp2_with fail
       go_meet
       exact ⟨b,y,l1,l2,_,_,rfl,HC,Gz,Cr,sA⟩
      ·obtain ⟨EN,ez⟩:∃x,qX.alloc (.cells #[.string ⟨#[]⟩,.slice none 0 0,.slice none 0 0,.slice none 0 0] 68)=x:=⟨_,rfl⟩
       have ba:Below qX.heap.size qX EN:=by rw[←ez];exact (zE _ _).alloc (zD _) _
       have bo:EN.heap[qX.heap.size]?=some (.cells #[.string ⟨#[]⟩,.slice none 0 0,.slice none 0 0,.slice none 0 0] 68 (0,0)):=by rw[←ez];exact aC _ _
       have dI:wo.heap.size≤qX.heap.size:=bP.size
       go_simp
       have fp:=cz fp ba
       have bP:=bP.trans (ba.mono bP.size)
       have aX:=aX.trans (ba.mono aX.size)
       refine hK _ _ ⟨fun _=>aX,?_⟩
       clear hK K ez ba
       refine ay 17 (by kernel_rfl) rfl (fun K hK=>?_)
       refine aN 32 rfl rfl 38 (fun vs=>by kernel_rfl) #[.tmp 31] #[22] rfl #[.slice ag m.gone.length cg] (by first|rfl|simp[Act.eval]) (aa HT EN aX) ?_
       rintro e' PT ⟨⟨u2,l2,rfl,ep,kK,nM⟩,ba⟩
       have fp:=cz fp ba
       have ep:=eJ ep (show wo.heap.size≤_ from bP.size)
       rw[←kK] at ep
       obtain ⟨E8,E7,rfl⟩:=bn ep
       have sA:=aj (And.intro kK nM)
       clear kK nM
       have bo:=(ba.block _ (zA bo).1).trans bo
       have bP:=bP.trans (ba.mono bP.size)
       have aX:=aX.trans (ba.mono aX.size)
       refine ⟨_,rfl,hK _ _ ⟨fun _=>aX,?_⟩⟩
       clear hK K ba
       simp only[Act.put,zL,zM,zN]
       have hT:=aX
       refine ak 18 ((.agg #[.string y,.slice none 0 0,.slice I5 l1.length I4,.slice E8 l2.length E7])) 33 rfl rfl (Or.inl ⟨by rfl,fun w' hw=>by go_simp⟩) hT ?_
       simp only[Act.put,zL,zM,zN]
       clear hT
       refine ay 20 (by kernel_rfl) rfl (fun K hK=>?_)
       obtain ⟨b,tr⟩:∃b,qX.heap.size=b:=⟨_,rfl⟩
       rw[tr] at bo dI ⊢
       obtain ⟨c0,c1,c2,c3⟩:=eK bo
       have z:∀j,PT.frozen? ⟨b,j,none⟩=false:=fun j=>by simp[World.frozen?,bo]
       have z0:=z 0
       have z1:=z 1
       have z2:=z 2
       have z3:=z 3
       have hC:=zv.new (m:=⟨y,[],l1,l2⟩) bP dI bo fp ep
       go_simp
       refine hK _ _ ⟨fun _=>(aa kZ).trans (hC.eL.mono (aa kZ).size),?_⟩
       clear hK K
       refine bj (by kernel_rfl) ?_
       have HC:=aj hC
       clear hC bP aX dI bo z z0 z1 z2 z3 c0 c1 c2 c3 fp ep
       go_wp2_with fail
       go_meet
       exact ⟨b,y,l1,l2,_,_,rfl,HC,Gz,Cr,sA⟩
     ·obtain ⟨K3,ez⟩:∃x,pP.alloc (.cells #[.string ⟨#[]⟩,.slice none 0 0,.slice none 0 0,.slice none 0 0] 68)=x:=⟨_,rfl⟩
      have ba:Below pP.heap.size pP K3:=by rw[←ez];exact (zE _ _).alloc (zD _) _
      have bo:K3.heap[pP.heap.size]?=some (.cells #[.string ⟨#[]⟩,.slice none 0 0,.slice none 0 0,.slice none 0 0] 68 (0,0)):=by rw[←ez];exact aC _ _
      have dI:wo.heap.size≤pP.heap.size:=bP.size
      go_simp
      have bP:=bP.trans (ba.mono bP.size)
      have aX:=aX.trans (ba.mono aX.size)
      refine hK _ _ ⟨fun _=>aX,?_⟩
      clear hK K ez ba
      refine ay 11 (by kernel_rfl) rfl (fun K hK=>?_)
      refine aN 26 rfl rfl 37 (fun vs=>by kernel_rfl) #[.tmp 25,.const (.int .i64 (-2147483648)),.const (.int .i64 2147483647)] #[62,3,3] rfl #[.slice ar m.res.length cr,.int .i64 (-2147483648),.int .i64 2147483647] (by first|rfl|simp[Act.eval]) (aa HR K3 aX) ?_
      rintro e' PS ⟨⟨u1,l1,rfl,fp,eT,xM⟩,ba⟩
      have fp:=eJ fp (show wo.heap.size≤_ from bP.size)
      rw[←eT] at fp
      obtain ⟨I5,I4,rfl⟩:=bn fp
      have Cr:=aj (And.intro eT xM)
      clear eT xM
      have bo:=(ba.block _ (zA bo).1).trans bo
      have bP:=bP.trans (ba.mono bP.size)
      have aX:=aX.trans (ba.mono aX.size)
      refine ⟨_,rfl,hK _ _ ⟨fun _=>aX,?_⟩⟩
      clear hK K ba
      simp only[Act.put,zL,zM,zN]
      refine ay 17 (by kernel_rfl) rfl (fun K hK=>?_)
      refine aN 32 rfl rfl 38 (fun vs=>by kernel_rfl) #[.tmp 31] #[22] rfl #[.slice ag m.gone.length cg] (by first|rfl|simp[Act.eval]) (aa HT PS aX) ?_
      rintro e' Tq ⟨⟨u2,l2,rfl,ep,kK,nM⟩,ba⟩
      have fp:=cz fp ba
      have ep:=eJ ep (show wo.heap.size≤_ from bP.size)
      rw[←kK] at ep
      obtain ⟨E8,E7,rfl⟩:=bn ep
      have sA:=aj (And.intro kK nM)
      clear kK nM
      have bo:=(ba.block _ (zA bo).1).trans bo
      have bP:=bP.trans (ba.mono bP.size)
      have aX:=aX.trans (ba.mono aX.size)
      refine ⟨_,rfl,hK _ _ ⟨fun _=>aX,?_⟩⟩
      clear hK K ba
      simp only[Act.put,zL,zM,zN]
      have hT:=aX
      refine ak 18 ((.agg #[.string y,.slice none 0 0,.slice I5 l1.length I4,.slice E8 l2.length E7])) 33 rfl rfl (Or.inl ⟨by rfl,fun w' hw=>by go_simp⟩) hT ?_
      simp only[Act.put,zL,zM,zN]
      clear hT
      refine ay 20 (by kernel_rfl) rfl (fun K hK=>?_)
      obtain ⟨b,tr⟩:∃b,pP.heap.size=b:=⟨_,rfl⟩
      rw[tr] at bo dI ⊢
      obtain ⟨c0,c1,c2,c3⟩:=eK bo
      have z:∀j,Tq.frozen? ⟨b,j,none⟩=false:=fun j=>by simp[World.frozen?,bo]
      have z0:=z 0
      have z1:=z 1
      have z2:=z 2
      have z3:=z 3
      have hC:=zv.new (m:=⟨y,[],l1,l2⟩) bP dI bo fp ep
      go_simp
      refine hK _ _ ⟨fun _=>(aa kZ).trans (hC.eL.mono (aa kZ).size),?_⟩
      clear hK K
      refine bj (by kernel_rfl) ?_
      have HC:=aj hC
      clear hC bP aX dI bo z z0 z1 z2 z3 c0 c1 c2 c3 fp ep
      go_wp2_with fail
      go_meet
      exact ⟨b,y,l1,l2,_,_,rfl,HC,Gz,Cr,sA⟩
    ·obtain ⟨A2,ez⟩:∃x,wd.alloc (.cells #[.string ⟨#[]⟩,.slice none 0 0,.slice none 0 0,.slice none 0 0] 68)=x:=⟨_,rfl⟩
     have ba:Below wd.heap.size wd A2:=by rw[←ez];exact (zE _ _).alloc (zD _) _
     have bo:A2.heap[wd.heap.size]?=some (.cells #[.string ⟨#[]⟩,.slice none 0 0,.slice none 0 0,.slice none 0 0] 68 (0,0)):=by rw[←ez];exact aC _ _
     have dI:wo.heap.size≤wd.heap.size:=bP.size
     go_simp
     have bP:=bP.trans (ba.mono bP.size)
     have aX:=aX.trans (ba.mono aX.size)
     refine hK _ _ ⟨fun _=>aX,?_⟩
     clear hK K ez ba
     refine ay 5 (by kernel_rfl) rfl (fun K hK=>?_)
     refine aN 20 rfl rfl 22 (fun vs=>by kernel_rfl) #[.tmp 19] #[9] rfl #[.string m.name] (by first|rfl|simp[Act.eval]) (gg A2 m.name (aa O5)) ?_
     rintro e' IY ⟨⟨y,hy,rfl⟩,ba⟩
     have Gz:=aj hy
     clear hy
     have bo:=(ba.block _ (zA bo).1).trans bo
     have bP:=bP.trans (ba.mono bP.size)
     have aX:=aX.trans (ba.mono aX.size)
     refine ⟨_,rfl,hK _ _ ⟨fun _=>aX,?_⟩⟩
     clear hK K ba
     simp only[Act.put,zL,zM,zN]
     refine ay 11 (by kernel_rfl) rfl (fun K hK=>?_)
     refine aN 26 rfl rfl 37 (fun vs=>by kernel_rfl) #[.tmp 25,.const (.int .i64 (-2147483648)),.const (.int .i64 2147483647)] #[62,3,3] rfl #[.slice ar m.res.length cr,.int .i64 (-2147483648),.int .i64 2147483647] (by first|rfl|simp[Act.eval]) (aa HR IY aX) ?_
     rintro e' K5 ⟨⟨u1,l1,rfl,fp,eT,xM⟩,ba⟩
     have fp:=eJ fp (show wo.heap.size≤_ from bP.size)
     rw[←eT] at fp
     obtain ⟨I5,I4,rfl⟩:=bn fp
     have Cr:=aj (And.intro eT xM)
     clear eT xM
     have bo:=(ba.block _ (zA bo).1).trans bo
     have bP:=bP.trans (ba.mono bP.size)
     have aX:=aX.trans (ba.mono aX.size)
     refine ⟨_,rfl,hK _ _ ⟨fun _=>aX,?_⟩⟩
     clear hK K ba
     simp only[Act.put,zL,zM,zN]
     refine ay 17 (by kernel_rfl) rfl (fun K hK=>?_)
     refine aN 32 rfl rfl 38 (fun vs=>by kernel_rfl) #[.tmp 31] #[22] rfl #[.slice ag m.gone.length cg] (by first|rfl|simp[Act.eval]) (aa HT K5 aX) ?_
     rintro e' K4 ⟨⟨u2,l2,rfl,ep,kK,nM⟩,ba⟩
     have fp:=cz fp ba
     have ep:=eJ ep (show wo.heap.size≤_ from bP.size)
     rw[←kK] at ep
     obtain ⟨E8,E7,rfl⟩:=bn ep
     have sA:=aj (And.intro kK nM)
     clear kK nM
     have bo:=(ba.block _ (zA bo).1).trans bo
     have bP:=bP.trans (ba.mono bP.size)
     have aX:=aX.trans (ba.mono aX.size)
     refine ⟨_,rfl,hK _ _ ⟨fun _=>aX,?_⟩⟩
     clear hK K ba
     simp only[Act.put,zL,zM,zN]
     have hT:=aX
     refine ak 18 ((.agg #[.string y,.slice none 0 0,.slice I5 l1.length I4,.slice E8 l2.length E7])) 33 rfl rfl (Or.inl ⟨by rfl,fun w' hw=>by go_simp⟩) hT ?_
     simp only[Act.put,zL,zM,zN]
     clear hT
     refine ay 20 (by kernel_rfl) rfl (fun K hK=>?_)
     obtain ⟨b,tr⟩:∃b,wd.heap.size=b:=⟨_,rfl⟩
     rw[tr] at bo dI ⊢
     obtain ⟨c0,c1,c2,c3⟩:=eK bo
     have z:∀j,K4.frozen? ⟨b,j,none⟩=false:=fun j=>by simp[World.frozen?,bo]
     have z0:=z 0
     have z1:=z 1
     have z2:=z 2
     have z3:=z 3
     have hC:=zv.new (m:=⟨y,[],l1,l2⟩) bP dI bo fp ep
     go_simp
     refine hK _ _ ⟨fun _=>(aa kZ).trans (hC.eL.mono (aa kZ).size),?_⟩
     clear hK K
     refine bj (by kernel_rfl) ?_
     have HC:=aj hC
     clear hC bP aX dI bo z z0 z1 z2 z3 c0 c1 c2 c3 fp ep
     go_wp2_with fail
     go_meet
     exact ⟨b,y,l1,l2,_,_,rfl,HC,Gz,Cr,sA⟩
   case rest =>
    obtain ⟨b,y,l1,l2,ur,ug,rfl,HC,Gz,Cr,sA⟩:=hcut
    obtain ⟨Le,Lc,rfl⟩:=bn (aa HC).r
    obtain ⟨Lf,Ld,rfl⟩:=bn (aa HC).g
    have HN:Hid (wc.ownsRow wo.heap.size 94 2 (.slice none 0 0) 0 []):=⟨rfl,.inl ⟨rfl,rfl⟩⟩
    obtain ⟨x0,x1,x2,x3⟩:=aa iU wc ((aa kZ).trans ((aa HC).eL.mono (aa kZ).size))
    go_upto_region 7 with fail
    clear x0 x1 x2 x3
    go_loopg [6,7,8] m.bL.length (fun gk v6 _ _ wi=>∃(k:Nat) (uv:Value) (Kz:List (ByteArray×Int)),v6=.int .i64 (k:Int)∧gk=m.bL.length-k∧k≤m.bL.length∧Hid (zv wo wi b uv (.slice Le l1.length Lc) (.slice Lf l2.length Ld) ⟨y,[],l1,l2⟩)∧Hid (wi.ownsRow wo.heap.size 94 2 uv k (xZ Kz))∧Hid (Kz.length=k∧∀p ∈ Kz,sX p.1∧-2147483648≤p.2∧p.2≤2147483647))
    case atStart=>exact ⟨0,_,[],rfl,rfl,by omega,HC,HN,rfl,fun p hp=>by cases hp⟩
    case round =>
     obtain ⟨k,uv,Kz,rfl,kL,iq,oB,CD,mz⟩:=hrel
     have oM:=aj kL
     clear kL HC HN
     obtain ⟨Ty,Tx,rfl⟩:=bn (aa CD)
     have yG:=aj (show Below W.heap.size W wr from (aa kZ).trans ((aa oB).eL.mono (aa kZ).size))
     obtain ⟨x0,x1,x2,x3⟩:=aa iU wr (aa yG)
     by_cases eP:k<m.bL.length
     ·obtain ⟨gv,ov,rfl,WD,FQ⟩:=aa Z5 (by omega)
      obtain ⟨p,nM⟩:∃p,m.bL[k]?=some p:=⟨_,List.getElem?_eq_getElem eP⟩
      have Z0:Hid (∀w',Below W.heap.size W w'→w'.cell? ⟨gv,ov+k*2,none⟩=some (.string p.1)∧w'.cell? ⟨gv,ov+k*2+1,none⟩=some (.int .i64 p.2)):=fun w' hb =>
       ⟨(hb.cell (p:=⟨gv,ov+(k*2),none⟩) WD).trans (FQ _ _ (B3 nM).1),(hb.cell (p:=⟨gv,ov+(k*2+1),none⟩) WD).trans (FQ _ _ (B3 nM).2)⟩
      have HPz:=aj ((aa Hmz).bL p (List.mem_of_getElem? nM))
      obtain ⟨p1,p2⟩:=p
      simp only at Z0 HPz
      obtain ⟨y0,y1⟩:=aa Z0 wr (aa yG)
      have k0':(0:Int)≤(k:Int):=zH _
      have k1':(k:Int)<(m.bL.length:Int):=by omega
      have im:=aj eP
      have ba:Below wr.heap.size wr (wr.alloc (.cells #[.string p1,.int .i64 p2] 94)):=(zE _ _).alloc (zD _) _
      have Ns:(wr.alloc (.cells #[.string p1,.int .i64 p2] 94)).heap[wr.heap.size]?=some (.cells #[.string p1,.int .i64 p2] 94 (0,0)):=aC _ _
      obtain ⟨W2,ES⟩:∃W2,wr.alloc (.cells #[.string p1,.int .i64 p2] 94)=W2:=⟨_,rfl⟩
      rw[ES] at ba Ns
      have zu:=aj ((aa oB).below ba)
      have Xc:=aj (cz (aa CD) ba)
      have GA:Hid (∀w',Below W2.heap.size W2 w'→w'.heap[wr.heap.size]?=some (.cells #[.string p1,.int .i64 p2] 94 (0,0))):=fun w' hb=>(hb.block _ (zA Ns).1).trans Ns
      have HVn:Hid ((Value.slice Ty k Tx).ownBlock≠some wr.heap.size):=fun e=>by have:=((aa CD).lt _ e).2;omega
      have HW:=aj (fun w=>gg w p1 (by have:=(aa HPz).1;omega))
      clear eP nM FQ ba Ns
      go_upto_region 10 with fail
      obtain ⟨d0,d1⟩:W2.cell? ⟨wr.heap.size,0,none⟩=some (.string p1)∧W2.cell? ⟨wr.heap.size,1,none⟩=some (.int .i64 p2):=⟨cell_of_row _ _ _ _ _ _ (aa GA W2 (zE _ _)),cell_of_row _ _ _ _ _ _ (aa GA W2 (zE _ _))⟩
      clear x0 x1 x2 x3 y0 y1
      go_wp2_with fail
      refine (aa HW W2).mono ?_
      rintro e w3 ⟨⟨nm2,YA,rfl⟩,mQ⟩
      have HC4:=aj ((aa zu).below mQ)
      have HO4:=aj (cz (aa Xc) mQ)
      have HV4:=aj (aa GA w3 mQ)
      have aab:=aj YA
      clear mQ YA d0 d1 zu Xc GA HW
      go_upto_region 11 with fail
      obtain ⟨B1,Im⟩:∃B1,(nm2.toList==[111,112,116,105,111,110])=B1:=⟨_,rfl⟩
      obtain ⟨B2,Il⟩:∃B2,(nm2.toList==[114,101,115,101,114,118,101,100])=B2:=⟨_,rfl⟩
      have np:=aj Im
      have iL:=aj Il
      go_cut [60] (fun v60 wx=>v60=.bool (B1 ||B2)∧wx=w3)
      case first =>
       cases B1 with
       |true =>
        go_wp2_with fail
        go_meet
        exact ⟨rfl,rfl⟩
       |false =>
        go_wp2_with fail
        go_meet
        exact ⟨rfl,rfl⟩
      case rest =>
       obtain ⟨rfl,xK⟩:=hcut
       obtain rfl:w3=wc:=xK.symm
       clear xK Im Il
       go_upto_if 60 with fail
       go_cut [8] (fun v8 wx=>∃z,v8=.string z∧Hid (sX z)∧wx=w3)
       case first =>
        cases B1 with
        |true =>
         rw[Bool.true_or]
         go_wp2_with fail
         go_meet
         exact ⟨_,rfl,Sx,rfl⟩
        |false =>
         rw[Bool.false_or]
         cases B2 with
         |true =>
          go_wp2_with fail
          go_meet
          exact ⟨_,rfl,Sx,rfl⟩
         |false =>
          go_wp2_with fail
          go_meet
          exact ⟨nm2,rfl,Ts (aa aab) (aa np) (aa iL),rfl⟩
       case rest =>
        obtain ⟨z9,rfl,HVo,xK⟩:=hcut
        obtain rfl:w3=wc:=xK.symm
        clear xK np iL aab
        go_upto_region 13 with fail
        obtain ⟨vb,vG⟩:∃vb,wr.heap.size=vb:=⟨_,rfl⟩
        rw[vG] at HV4 HVn ⊢
        have Hvb:=aj vG
        clear vG
        refine wp_region_any (by kernel_rfl) (cj (z:=10) (T:=fun w'=>w'.cell? ⟨b,1,none⟩=some (.slice Ty k Tx)∧w'.cell? ⟨vb,1,none⟩=some (.int .i64 p2)) _ _ _ _ ?_)
        try (change cW _ _ _ _ _ _ _ _ _ (World.drew _))
        have hC:=(aa HC4).below (below_drewN (zE w3.heap.size w3) 1)
        have hO:=cz (aa HO4) (below_drewN (zE w3.heap.size w3) 1)
        have hV:w3.drew.heap[vb]?=some (.cells #[.string p1,.int .i64 p2] 94 (0,0)):=aa HV4
        change zv _ w3.drew _ _ _ _ _ at hC
        change World.ownsRow w3.drew _ _ _ _ _ _ at hO
        obtain ⟨wd,iZ⟩:∃x,w3.drew=x:=⟨_,rfl⟩
        rw[iZ] at hC hO hV ⊢
        have hT:(fun w':World=>w'.cell? ⟨b,1,none⟩=some (.slice Ty k Tx)∧w'.cell? ⟨vb,1,none⟩=some (.int .i64 p2)) wd:=⟨cell_of_row _ _ _ _ _ _ hC.dJ,cell_of_row _ _ _ _ _ _ hV⟩
        refine ak 0 (.pointer (some ⟨b,1,none⟩)) 61 rfl rfl (Or.inl ⟨by rfl,fun w' hw=>by obtain ⟨t0,t1⟩:=hw;go_simp⟩) hT ?_
        simp only[Act.put,zL,zM,zN]
        refine ak 1 (.slice Ty k Tx) 62 rfl rfl (Or.inl ⟨by rfl,fun w' hw=>by obtain ⟨t0,t1⟩:=hw;go_simp⟩) hT ?_
        simp only[Act.put,zL,zM,zN]
        refine ak 2 (.string z9) 63 rfl rfl (Or.inl ⟨by rfl,fun w' hw=>by obtain ⟨t0,t1⟩:=hw;go_simp⟩) hT ?_
        simp only[Act.put,zL,zM,zN]
        refine ak 3 (.pointer (some ⟨vb,1,none⟩)) 64 rfl rfl (Or.inl ⟨by rfl,fun w' hw=>by obtain ⟨t0,t1⟩:=hw;go_simp⟩) hT ?_
        simp only[Act.put,zL,zM,zN]
        refine ak 4 (.int .i64 p2) 65 rfl rfl (Or.inl ⟨by rfl,fun w' hw=>by obtain ⟨t0,t1⟩:=hw;go_simp⟩) hT ?_
        simp only[Act.put,zL,zM,zN]
        refine ay 5 (by kernel_rfl) rfl (fun K hK=>?_)
        refine aN 66 rfl rfl 11 (fun vs=>by kernel_rfl) #[.tmp 65,.const (.int .i64 (-2147483648)),.const (.int .i64 2147483647)] #[3,3,3] rfl #[.int .i64 p2,.int .i64 (-2147483648),.int .i64 2147483647] (by first|rfl|simp[Act.eval]) (dU wd (aa HPz).2 (by decide) (by decide) (by decide)) ?_
        rintro e' Tq ⟨⟨q,hq,rfl⟩,hw9⟩
        obtain rfl:wd=Tq:=hw9.symm
        refine ⟨_,rfl,hK _ _ ⟨fun _=>hT,?_⟩⟩
        have HQ:=aj hq
        clear hK K hw9 hq
        simp only[Act.put,zL,zM,zN]
        refine ak 6 (.agg #[.string z9,.int .i64 q]) 67 rfl rfl (Or.inl ⟨by rfl,fun w' hw=>by obtain ⟨t0,t1⟩:=hw;go_simp⟩) hT ?_
        simp only[Act.put,zL,zM,zN]
        obtain ⟨wy,MZ⟩:∃x,wd.alloc (.cells #[.string z9,.int .i64 q] 94)=x:=⟨_,rfl⟩
        have ba:Below wd.heap.size wd wy:=by rw[←MZ];exact (zE _ _).alloc (zD _) _
        have hC:=hC.below ba
        have hO:=cz hO ba
        have hV:=(ba.block _ (zA hV).1).trans hV
        have hT:(fun w':World=>w'.cell? ⟨b,1,none⟩=some (.slice Ty k Tx)∧w'.cell? ⟨vb,1,none⟩=some (.int .i64 p2)) wy:=⟨cell_of_row _ _ _ _ _ _ hC.dJ,cell_of_row _ _ _ _ _ _ hV⟩
        have Yz:∀j u,[Value.string z9,.int .i64 q][j]?=some u→wy.cell? ((⟨wd.heap.size,0,none⟩:Addr).add j)=some u:=by rw[←MZ];exact AR _ _ _ _
        refine ay 7 (by kernel_rfl) rfl (fun K hK=>?_)
        go_simp
        refine hK _ _ ⟨fun _=>hT,?_⟩
        clear hK K MZ ba iZ
        refine ay 8 (by kernel_rfl) rfl (fun K hK=>?_)
        refine qf 69 rfl rfl (.tmp 62) (.tmp 68) 66 rfl wo.heap.size 94 j0 (.agg #[.string ByteArray.empty,.int .i64 0]) 2 24 Tryz.underlying66 hj XV XU XT rfl (by decide) (.slice Ty k Tx) k _ (by first|rfl|simp[Act.eval]) hO ⟨wd.heap.size,0,none⟩ 1 1 [.string z9,.int .i64 q] (by first|rfl|simp[Act.eval]) rfl Yz (by simp[Value.oneCell']) (by have:=aa im;have:=(aa Hmz).vl;unfold maxLen;omega) (by have:=aa im;have:=(aa Hmz).vl;omega) hC.eL.size ?_
        intro v' w2 ho ej _
        have Zm:=hC.aaM ej (fun j e=>(hO.lt j e).1) (bH hO hC.dJ (by decide)) (mF hO hC.r (by decide)) (mF hO hC.g (by decide))
        obtain ⟨a',c',rfl⟩:=bn ho
        have hV2:=(ej.block _ (zA hV).1 (fun e=>aa HVn e.symm)).trans hV
        have jr:(fun w':World=>w'.cell? ⟨b,1,none⟩=some (.slice Ty k Tx)∧w'.cell? ⟨vb,1,none⟩=some (.int .i64 p2)) w2:=⟨cell_of_row _ _ _ _ _ _ Zm.dJ,cell_of_row _ _ _ _ _ _ hV2⟩
        refine hK _ _ ⟨fun _=>jr,?_⟩
        clear hK K hC hO hT ej Yz hV
        simp only[Act.put,zL,zM,zN]
        refine ay 9 (by kernel_rfl) rfl (fun K hK=>?_)
        go_simp
        refine hK _ _ ⟨fun _=>jr,?_⟩
        clear hK K
        have UR:=jr.1
        have WH:w2.frozen? ⟨b,1,none⟩=false:=by simp[World.frozen?,Zm.dJ]
        obtain ⟨hC3,fB⟩:=Zm.val (.slice a' (k+1) c')
        have UZ:=ho.kept fB (.inr (bH ho Zm.dJ (by decide)))
        refine ay 10 (by kernel_rfl) rfl (fun K hK=>?_)
        go_simp
        refine hK _ _ ⟨fun h=>absurd rfl h,?_⟩
        have HC9:=aj hC3
        have HO9:=aj UZ
        clear hK K UR WH jr ho Zm hC3 UZ fB hV2
        refine bj (by kernel_rfl) ?_
        have hvL:m.bL.length≤1048576:=(aa Hmz).vl
        go_wp2
        go_roundg (m.bL.length-(k+1))
        case measure=>have:=aa oM;have:=aa im;omega
        case rel =>
         refine ⟨k+1,_,Kz++[(z9,q)],by go_num,rfl,aa im,HC9,by rw[Iw];exact HO9,by rw[zK,(aa mz).1];rfl,fun p hp=>?_⟩
         rcases List.mem_append.1 hp with hp|hp
         ·exact (aa mz).2 p hp
         ·rw[List.mem_singleton.1 hp];exact ⟨aa HVo,aa HQ⟩
     ·obtain rfl:k=m.bL.length:=by omega
      have k1':¬(m.bL.length:Int)<(m.bL.length:Int):=by omega
      go_upto_region 14 with fail
      clear x0 x1 x2 x3
      obtain ⟨c0,c1,c2,c3⟩:=eK (aa oB).dJ
      go_cut [74] (fun v74 wx=>v74=.bool (decide (m.bL.length=0))∧wx=wr)
      case first =>
       go_wp2_with fail
       go_meet
       refine ⟨congrArg Value.bool ?_,rfl⟩
       rw[Bool.eq_iff_iff,beq_iff_eq,decide_eq_true_iff]
       omega
      case rest =>
       obtain ⟨rfl,xK⟩:=hcut
       obtain rfl:wr=wc:=xK.symm
       clear xK
       go_upto_if 74 with fail
       go_cut [] (fun wx=>∃(uv2:Value) (lN:List (ByteArray×Int)),Hid (zv wo wx b uv2 (.slice Le l1.length Lc) (.slice Lf l2.length Ld) ⟨y,[],l1,l2⟩)∧Hid (wx.ownsRow wo.heap.size 94 2 uv2 lN.length (xZ lN))∧Hid (lN≠[]∧lN.length≤m.bL.length+1∧∀p ∈ lN,sX p.1∧-2147483648≤p.2∧p.2≤2147483647))
       case first =>
        by_cases X6:m.bL.length=0
        ·rw[decide_eq_true X6]
         go_upto_region 15 with fail
         obtain ⟨wy,MZ⟩:∃x,wr.alloc (.cells #[.string ⟨#[90]⟩,.int .i64 0] 94)=x:=⟨_,rfl⟩
         have ba:Below wr.heap.size wr wy:=by rw[←MZ];exact (zE _ _).alloc (zD _) _
         have hvz:wy.heap[wr.heap.size]?=some (.cells #[.string ⟨#[90]⟩,.int .i64 0] 94 (0,0)):=by rw[←MZ];exact aC _ _
         have dI:=(aa oB).eL.size
         have hC:=(aa oB).below ba
         obtain ⟨e0,e1,e2,e3⟩:=eK hC.dJ
         have WH:wy.frozen? ⟨b,1,none⟩=false:=by simp[World.frozen?,hC.dJ]
         clear c0 c1 c2 c3
         have ab0:¬m.bL.length≠0:=fun e=>e X6
         clear X6
         go_wp2_with (rw[MZ])
         obtain ⟨hC3,fB⟩:=hC.val (.slice (some ⟨wr.heap.size,0,none⟩) 1 1)
         have hO:wy.ownsRow wo.heap.size 94 2 (.slice (some ⟨wr.heap.size,0,none⟩) 1 1) 1 (xZ [(⟨#[90]⟩,0)]):=⟨rfl,.inr ⟨wr.heap.size,1,_,rfl,dI,hvz,zD _,by decide,rfl,rfl⟩⟩
         have UZ:=hO.kept fB (.inr (bH hO hC.dJ (by decide)))
         go_meet
         exact ⟨_,[(⟨#[90]⟩,0)],hC3,UZ,by simp,by simp,fun p hp=>by rw[List.mem_singleton.1 hp];exact ⟨Xs,by decide,by decide⟩⟩
        ·rw[decide_eq_false X6]
         go_wp2_with fail
         go_meet
         exact ⟨_,Kz,oB,by rw[(aa mz).1];exact CD,fun e=>X6 (by rw[←(aa mz).1,e];rfl),by have:=(aa mz).1;omega,(aa mz).2⟩
       case rest =>
        obtain ⟨uv2,lN,HC7,V2,HV7⟩:=hcut
        obtain ⟨a7,c7,rfl⟩:=bn (aa V2)
        have sy:=aj (show w0.heap.size≤wc.heap.size from Nat.le_trans (aa HB).size (aa HC7).eL.size)
        have HO5:=aj (cz (aa HO) ((aa HC7).eL))
        have EH:=aj ((aa HB).trans ((aa HC7).eL.mono (aa HB).size))
        clear c0 c1 c2 c3
        go_upto_region 16 with fail
        have hC8:zv wo wc b (.slice a7 lN.length c7) (.slice Le l1.length Lc) (.slice Lf l2.length Ld) ⟨y,lN,l1,l2⟩:=by
         have h:=aa HC7
         exact ⟨h.eL,h.low,h.dJ,h.r,h.g⟩
        obtain ⟨c0,c1,c2,c3⟩:=eK hC8.dJ
        have HC8:=aj hC8
        clear hC8 HC7
        obtain ⟨ao,co,rfl⟩:=bn (aa HO)
        have HEK:Hid (EK ⟨y,lN,l1,l2⟩∧nQ ⟨y,lN,l1,l2⟩≤IA m):=by
         have h7:=aa HV7
         refine ⟨⟨aa Gz,h7.1,h7.2.2,(aa Cr).2,(aa sA).2⟩,?_⟩
         show 20*l1.length+10*l2.length+20*lN.length+60≤20*m.res.length+10*m.gone.length+20*m.bL.length+80
         have:=h7.2.1
         have:=(aa Cr).1
         have:=(aa sA).1
         omega
        go_wp2_with (at_builtin;refine wpList_append_own_at _ rfl _ _ 24 rfl w0.heap.size 68 i0 (.agg #[.string ByteArray.empty,.slice none 0 0,.slice none 0 0,.slice none 0 0]) 4 88 Tryz.underlying24 hi oH oG pQ rfl (by decide) _ _ _ rfl ((aa HO5).alloc _) ⟨wc.heap.size,0,none⟩ 1 1 [.string y,.slice a7 lN.length c7,.slice Le l1.length Lc,.slice Lf l2.length Ld] rfl rfl (oy _ _ _) (by simp[Value.oneCell']) (by have:=aa dN;unfold maxLen;omega) (by have:=aa dN;have:=aa Hl;omega) (by rw[zJ];have:=aa sy;omega) ?_;intro v' w2 ho ej _ Ar;have V3:=aj ho;have Wc:=aj (L4 (aa HO) (aa HES) (aa HC8) (aa V2) (aa HB).size ((zE _ _).alloc (zD _) _) ej Ar);have PL:=aj (((aa EH).alloc (aa EH).size _).grown ej (by rw[zJ];have:=aa sy;omega) (fun q e=>((aa HO).lt q e).1));clear ho ej Ar)
        go_roundg (l.length-(i+1))
        case measure=>have:=aa gA;have:=aa dN;omega
        case rel =>
         refine ⟨i+1,_,acc++[⟨y,lN,l1,l2⟩],by go_num,rfl,aa dN,V3,Wc,?_,PL⟩
         obtain ⟨q1,q2,q3⟩:=aa HAc
         refine ⟨by rw[zK,q1];rfl,fun e he=>?_,?_⟩
         ·rcases List.mem_append.1 he with he|he
          ·exact q2 e he
          ·rw[List.mem_singleton.1 he];exact (aa HEK).1
         ·rw[kB,fA IA (aa Hr)]
          have:=(aa HEK).2
          simp only[bI]
          omega
  ·obtain rfl:i=l.length:=by omega
   have hA:=aa HAc
   rw[List.take_length] at hA
   have mz:=aj hA
   clear hA
   go_wp2
   go_ret
   exact ⟨⟨_,kO,acc,rfl,aa HO,aa HES,(aa mz).1,(aa mz).2.1,(aa mz).2.2⟩,aa HB⟩
end Go.Proofs.YtmlphohdcejniaaGreatDoor

import Derived.Test.YtmlphohdcejniaaGreatDoorVV
set_option maxHeartbeats 8000000
set_option maxRecDepth 100000
namespace Go.Proofs.YtmlphohdcejniaaGreatDoor
open Go.RowKit
attribute [local go_sem ↓] Go.wp_at_zero Go.wp_at_succ
theorem eu {w:World}{b:Nat}{v0 v1 v2 v3:Value}{t:TypeId} (hn:w.heap[b]?=some (.cells #[v0,v1,v2,v3] t (0,0))):w.cell? ⟨b,0,none⟩=some v0∧w.cell? ⟨b,1,none⟩=some v1∧w.cell? ⟨b,2,none⟩=some v2∧w.cell? ⟨b,3,none⟩=some v3 :=
 ⟨cell_of_row _ _ _ _ _ _ hn,cell_of_row _ _ _ _ _ _ hn,cell_of_row _ _ _ _ _ _ hn,cell_of_row _ _ _ _ _ _ hn⟩
structure Jk (e:En):Prop where
 nm:e.name.size≤1048576
 vl:e.bJ.length≤1048576
 bJ:∀p ∈ e.bJ,p.1.size≤1048576∧kQ p.2
 rl:e.res.length≤1048576
 res:∀p ∈ e.res,kQ p.1∧kQ p.2
 gl:e.gone.length≤1048576
 gone:∀x ∈ e.gone,x.size≤1048576
def Gb (e:En):Nat:=20*e.res.length+10*e.gone.length+20*e.bJ.length+80
theorem Rk {x:ByteArray} (h:aU x) (h1:(x.toList==[111,112,116,105,111,110])=false) (h2:(x.toList==[114,101,115,101,114,118,101,100])=false):rG x:=by
 refine ⟨h,?_⟩
 unfold Dk
 rw[if_neg,if_neg]
 ·intro e
  have e2:x.data=#[111,112,116,105,111,110]:=eq_of_beq e
  rw[oe,e2] at h1
  revert h1
  decide
 ·intro e
  have e2:x.data=#[114,101,115,101,114,118,101,100]:=eq_of_beq e
  rw[oe,e2] at h2
  revert h2
  decide
theorem Qm:rG ⟨#[120]⟩:=⟨KN,by unfold Dk;rw[if_neg (by decide),if_neg (by decide)]⟩
theorem Vl:rG ⟨#[90]⟩:=⟨by refine ⟨?_,by decide,by decide⟩;kernel_rfl,by unfold Dk;rw[if_neg (by decide),if_neg (by decide)]⟩
theorem wJ {W:World}{v:Value}{l:List En}{cs:List Value} (hv:Rl W v l.length cs) (he:Dw W cs l) (hl:l.length≤1048576) (hz:∀e ∈ l,Jk e) (w0:World) (hw:Below W.heap.size W w0) :
  Calls Tryz.prog 17 #[v] w0 fun e w=>(∃u mq l',e=.returned u∧w.ownsRow w0.heap.size 68 4 u l.length mq∧eC (Rest w0.heap.size u) w mq l'∧l'.length=l.length∧(∀e ∈ l',C' e)∧bG mY l'≤bG Gb l)∧Below w0.heap.size w0 w:=by
 obtain ⟨a,c,rfl,hn,h2⟩:=hv
 obtain ⟨i0,hi,nD,nC,oK⟩:=info_parts Sn
 obtain ⟨j0,hj,VX,VW,VV⟩:=info_parts Sl
 have H2:=aj h2
 have HW:=aj hw
 have Hl:=aj hl
 have Hes:=aj he
 have Hz:=aj hz
 clear h2 hw hl he hz
 go_enter Tryz.func17,Tryz.ntmps17
 go_wp2
 go_loopg [3,4,5,6,7,8] l.length (fun gk v3 v4 _ _ _ _ wr=>∃(i:Nat) (mq:List Value) (acc:List En),v4=.int .i64 (i:Int)∧gk=l.length-i∧i≤l.length∧Hid (wr.ownsRow w0.heap.size 68 4 v3 i mq)∧Hid (eC (Rest w0.heap.size v3) wr mq acc)∧Hid (acc.length=i∧(∀e ∈ acc,C' e)∧bG mY acc≤bG Gb (l.take i))∧Hid (Below w0.heap.size w0 wr))
 case atStart=>exact ⟨0,[],[],rfl,rfl,by omega,⟨rfl,.inl ⟨rfl,rfl⟩⟩,.nil,⟨rfl,fun e he=>by (cases he),zD _⟩,zE _ _⟩
 case round =>
  obtain ⟨i,mq,acc,rfl,eN,pC,HO,Yw,YI,HB⟩:=hrel
  have fQ:=aj eN
  clear eN
  obtain ⟨wo,Sr⟩:∃x,x=wr:=⟨_,rfl⟩
  subst Sr
  by_cases cc:i<l.length
  ·obtain ⟨g,o,rfl,hg,hc⟩:=aa H2 (by omega)
   obtain ⟨m,hr⟩:∃m,l[i]?=some m:=⟨_,List.getElem?_eq_getElem cc⟩
   have Lv:=List.mem_of_getElem? hr
   obtain ⟨vv,vr,vg,Sy,Y9,V6,V8⟩:=(aa Hes).at i m hr
   have kp:=aj (show Below W.heap.size W wo from (aa HW).trans ((aa HB).mono (aa HW).size))
   have iu:Hid (∀w',Below W.heap.size W w'→w'.cell? ⟨g,o+i*4,none⟩=some (.string m.name)∧w'.cell? ⟨g,o+i*4+1,none⟩=some vv∧w'.cell? ⟨g,o+i*4+2,none⟩=some vr∧w'.cell? ⟨g,o+i*4+3,none⟩=some vg):=by
    intro w' hb
    have key:∀(j:Nat) (x:Value),[Value.string m.name,vv,vr,vg][j]?=some x→w'.cell? ⟨g,o+(i*4+j),none⟩=some x:=fun j x hx=>(hb.cell (p:=⟨g,o+(i*4+j),none⟩) hg).trans (hc _ _ (by
     rw[←Sy,List.getElem?_take,List.getElem?_drop] at hx
     split at hx
     ·exact hx
     ·cases hx))
    exact ⟨key 0 _ rfl,key 1 _ rfl,key 2 _ rfl,key 3 _ rfl⟩
   have jQ:=aa Hz m Lv
   have Nd:=aj (show m.name.size≤140737488351232 by have:=jQ.nm;omega)
   have HR:=aj (fun w' hb=>BB (lo:=-2147483648) (hi:=2147483647) (by decide) (by decide) (by decide) V6 jQ.rl jQ.res w' hb)
   have HT:=aj (fun w' hb=>x8 V8 jQ.gl jQ.gone w' hb)
   obtain ⟨av,cv,rfl,SD,Li⟩:=Y9
   obtain ⟨ar,cr,rfl,-,-⟩:=V6
   obtain ⟨ag,cg,rfl,-,-⟩:=V8
   have X':=aj Li
   have i0':(0:Int)≤(i:Int):=zH _
   have i1:(i:Int)<(l.length:Int):=by omega
   have dA:=aj cc
   have ZN:=aj jQ
   have Hr:=aj hr
   clear hc Lv Sy Li cc hr jQ
   go_upto_region 5 with fail
   go_cut [5] (fun v5 wx=>∃(b:Nat) (y:ByteArray) (l1:List (Int×Int)) (l2:List ByteArray) (ur ug:Value),v5=.pointer (some ⟨b,0,none⟩)∧Hid (xY wo wx b (.slice none 0 0) ur ug ⟨y,[],l1,l2⟩)∧Hid (aU y)∧Hid (l1.length=m.res.length∧AP (-2147483648) 2147483647 l1)∧Hid (l2.length=m.gone.length∧∀x ∈ l2,aU x))
   case first =>
    refine wp_region_any (by kernel_rfl) (ck (z:=99) (T:=fun w'=>Below W.heap.size W w') _ _ _ _ ?_)
    try (change cL _ _ _ _ _ _ _ _ _ (World.drew _))
    have aX:Below W.heap.size W wo.drew:=below_drewN (aa kp) 1
    have bL:Below wo.heap.size wo wo.drew:=below_drewN (zE wo.heap.size wo) 1
    obtain ⟨wd,jb⟩:∃x,wo.drew=x:=⟨_,rfl⟩
    rw[jb] at aX bL ⊢
    have hT:=aX
    refine aq 0 (.slice (some ⟨g,o,none⟩) l.length c) 15 rfl rfl (Or.inl ⟨by rfl,fun w' hw=>by obtain ⟨x0,x1,x2,x3⟩:=aa iu w' hw;go_simp⟩) hT ?_
    simp only[Act.put,zL,zM,zN]
    refine aq 1 (.int .i64 (i:Int)) 16 rfl rfl (Or.inl ⟨by rfl,fun w' hw=>by obtain ⟨x0,x1,x2,x3⟩:=aa iu w' hw;go_simp⟩) hT ?_
    simp only[Act.put,zL,zM,zN]
    refine aq 2 (.pointer (some ⟨g,o+i*4,none⟩)) 17 rfl rfl (Or.inl ⟨by rfl,fun w' hw=>by obtain ⟨x0,x1,x2,x3⟩:=aa iu w' hw;go_simp⟩) hT ?_
    simp only[Act.put,zL,zM,zN]
    refine aq 3 (.pointer (some ⟨g,o+i*4,none⟩)) 18 rfl rfl (Or.inl ⟨by rfl,fun w' hw=>by obtain ⟨x0,x1,x2,x3⟩:=aa iu w' hw;go_simp⟩) hT ?_
    simp only[Act.put,zL,zM,zN]
    refine aq 4 (.string m.name) 19 rfl rfl (Or.inl ⟨by rfl,fun w' hw=>by obtain ⟨x0,x1,x2,x3⟩:=aa iu w' hw;go_simp⟩) hT ?_
    simp only[Act.put,zL,zM,zN]
    refine aq 6 (.slice (some ⟨g,o,none⟩) l.length c) 21 rfl rfl (Or.inl ⟨by rfl,fun w' hw=>by obtain ⟨x0,x1,x2,x3⟩:=aa iu w' hw;go_simp⟩) hT ?_
    simp only[Act.put,zL,zM,zN]
    refine aq 7 (.int .i64 (i:Int)) 22 rfl rfl (Or.inl ⟨by rfl,fun w' hw=>by obtain ⟨x0,x1,x2,x3⟩:=aa iu w' hw;go_simp⟩) hT ?_
    simp only[Act.put,zL,zM,zN]
    refine aq 8 (.pointer (some ⟨g,o+i*4,none⟩)) 23 rfl rfl (Or.inl ⟨by rfl,fun w' hw=>by obtain ⟨x0,x1,x2,x3⟩:=aa iu w' hw;go_simp⟩) hT ?_
    simp only[Act.put,zL,zM,zN]
    refine aq 9 (.pointer (some ⟨g,o+i*4+2,none⟩)) 24 rfl rfl (Or.inl ⟨by rfl,fun w' hw=>by obtain ⟨x0,x1,x2,x3⟩:=aa iu w' hw;go_simp⟩) hT ?_
    simp only[Act.put,zL,zM,zN]
    refine aq 10 (.slice ar m.res.length cr) 25 rfl rfl (Or.inl ⟨by rfl,fun w' hw=>by obtain ⟨x0,x1,x2,x3⟩:=aa iu w' hw;go_simp⟩) hT ?_
    simp only[Act.put,zL,zM,zN]
    refine aq 12 (.slice (some ⟨g,o,none⟩) l.length c) 27 rfl rfl (Or.inl ⟨by rfl,fun w' hw=>by obtain ⟨x0,x1,x2,x3⟩:=aa iu w' hw;go_simp⟩) hT ?_
    simp only[Act.put,zL,zM,zN]
    refine aq 13 (.int .i64 (i:Int)) 28 rfl rfl (Or.inl ⟨by rfl,fun w' hw=>by obtain ⟨x0,x1,x2,x3⟩:=aa iu w' hw;go_simp⟩) hT ?_
    simp only[Act.put,zL,zM,zN]
    refine aq 14 (.pointer (some ⟨g,o+i*4,none⟩)) 29 rfl rfl (Or.inl ⟨by rfl,fun w' hw=>by obtain ⟨x0,x1,x2,x3⟩:=aa iu w' hw;go_simp⟩) hT ?_
    simp only[Act.put,zL,zM,zN]
    refine aq 15 (.pointer (some ⟨g,o+i*4+3,none⟩)) 30 rfl rfl (Or.inl ⟨by rfl,fun w' hw=>by obtain ⟨x0,x1,x2,x3⟩:=aa iu w' hw;go_simp⟩) hT ?_
    simp only[Act.put,zL,zM,zN]
    refine aq 16 (.slice ag m.gone.length cg) 31 rfl rfl (Or.inl ⟨by rfl,fun w' hw=>by obtain ⟨x0,x1,x2,x3⟩:=aa iu w' hw;go_simp⟩) hT ?_
    simp only[Act.put,zL,zM,zN]
    clear hT
    refine dj 5 19 (by kernel_rfl) rfl rfl (fun K hK=>?_) (fun K hK=>?_)
    ·refine aN 20 rfl rfl 22 (fun vs=>by kernel_rfl) #[.tmp 19] #[9] rfl #[.string m.name] (by first|rfl|simp[Act.eval]) (fM wd m.name (aa Nd)) ?_
     rintro e' oJ ⟨⟨y,hy,rfl⟩,ba⟩
     have E2:=aj hy
     clear hy
     have bL:=bL.trans (ba.mono bL.size)
     have aX:=aX.trans (ba.mono aX.size)
     refine ⟨_,rfl,hK _ _ ⟨fun _=>aX,?_⟩⟩
     clear hK K ba
     simp only[Act.put,zL,zM,zN]
     refine dj 11 19 (by kernel_rfl) rfl rfl (fun K hK=>?_) (fun K hK=>?_)
     ·refine aN 26 rfl rfl 37 (fun vs=>by kernel_rfl) #[.tmp 25,.const (.int .i64 (-2147483648)),.const (.int .i64 2147483647)] #[62,3,3] rfl #[.slice ar m.res.length cr,.int .i64 (-2147483648),.int .i64 2147483647] (by first|rfl|simp[Act.eval]) (aa HR oJ aX) ?_
      rintro e' pY ⟨⟨u1,l1,rfl,eT,ep,vY⟩,ba⟩
      have eT:=eh eT (show wo.heap.size≤_ from bL.size)
      rw[←ep] at eT
      obtain ⟨GF,GD,rfl⟩:=bj eT
      have AW:=aj (And.intro ep vY)
      clear ep vY
      have bL:=bL.trans (ba.mono bL.size)
      have aX:=aX.trans (ba.mono aX.size)
      refine ⟨_,rfl,hK _ _ ⟨fun _=>aX,?_⟩⟩
      clear hK K ba
      simp only[Act.put,zL,zM,zN]
      refine dj 17 19 (by kernel_rfl) rfl rfl (fun K hK=>?_) (fun K hK=>?_)
      ·refine aN 32 rfl rfl 38 (fun vs=>by kernel_rfl) #[.tmp 31] #[22] rfl #[.slice ag m.gone.length cg] (by first|rfl|simp[Act.eval]) (aa HT pY aX) ?_
       rintro e' pX ⟨⟨u2,l2,rfl,dQ,j8,mT⟩,ba⟩
       have eT:=ct eT ba
       have dQ:=eh dQ (show wo.heap.size≤_ from bL.size)
       rw[←j8] at dQ
       obtain ⟨DD,DC,rfl⟩:=bj dQ
       have qT:=aj (And.intro j8 mT)
       clear j8 mT
       have bL:=bL.trans (ba.mono bL.size)
       have aX:=aX.trans (ba.mono aX.size)
       refine ⟨_,rfl,hK _ _ ⟨fun _=>aX,?_⟩⟩
       clear hK K ba
       simp only[Act.put,zL,zM,zN]
       have hT:=aX
       refine aq 18 ((.agg #[.string y,.slice none 0 0,.slice GF l1.length GD,.slice DD l2.length DC])) 33 rfl rfl (Or.inl ⟨by rfl,fun w' hw=>by go_simp⟩) hT ?_
       simp only[Act.put,zL,zM,zN]
       clear hT
       refine ay 19 (by kernel_rfl) rfl (fun K hK=>?_)
       obtain ⟨zh,dT⟩:∃x,pX.alloc (.cells #[.string ⟨#[]⟩,.slice none 0 0,.slice none 0 0,.slice none 0 0] 68)=x:=⟨_,rfl⟩
       have ba:Below pX.heap.size pX zh:=by rw[←dT];exact (zE _ _).alloc (zD _) _
       have bo:zh.heap[pX.heap.size]?=some (.cells #[.string ⟨#[]⟩,.slice none 0 0,.slice none 0 0,.slice none 0 0] 68 (0,0)):=by rw[←dT];exact aC _ _
       have dr:wo.heap.size≤pX.heap.size:=bL.size
       go_simp
       have eT:=ct eT ba
       have dQ:=ct dQ ba
       have bL:=bL.trans (ba.mono bL.size)
       have aX:=aX.trans (ba.mono aX.size)
       refine hK _ _ ⟨fun _=>aX,?_⟩
       clear hK K dT ba
       refine ay 20 (by kernel_rfl) rfl (fun K hK=>?_)
       obtain ⟨b,rT⟩:∃b,pX.heap.size=b:=⟨_,rfl⟩
       rw[rT] at bo dr ⊢
       obtain ⟨c0,c1,c2,c3⟩:=eu bo
       have z:∀j,zh.frozen? ⟨b,j,none⟩=false:=fun j=>by simp[World.frozen?,bo]
       have z0:=z 0
       have z1:=z 1
       have z2:=z 2
       have z3:=z 3
       have hC:=xY.new (m:=⟨y,[],l1,l2⟩) bL dr bo eT dQ
       go_simp
       refine hK _ _ ⟨fun _=>(aa kp).trans (hC.ez.mono (aa kp).size),?_⟩
       clear hK K
       refine bn (by kernel_rfl) ?_
       have HC:=aj hC
       clear hC bL aX dr bo z z0 z1 z2 z3 c0 c1 c2 c3 eT dQ
       go_wp2_with fail
       go_meet
       exact ⟨b,y,l1,l2,_,_,rfl,HC,E2,AW,qT⟩
      ·obtain ⟨Db,dT⟩:∃x,pY.alloc (.cells #[.string ⟨#[]⟩,.slice none 0 0,.slice none 0 0,.slice none 0 0] 68)=x:=⟨_,rfl⟩
       have ba:Below pY.heap.size pY Db:=by rw[←dT];exact (zE _ _).alloc (zD _) _
       have bo:Db.heap[pY.heap.size]?=some (.cells #[.string ⟨#[]⟩,.slice none 0 0,.slice none 0 0,.slice none 0 0] 68 (0,0)):=by rw[←dT];exact aC _ _
       have dr:wo.heap.size≤pY.heap.size:=bL.size
       go_simp
       have eT:=ct eT ba
       have bL:=bL.trans (ba.mono bL.size)
       have aX:=aX.trans (ba.mono aX.size)
       refine hK _ _ ⟨fun _=>aX,?_⟩
       clear hK K dT ba
       refine ay 17 (by kernel_rfl) rfl (fun K hK=>?_)
       refine aN 32 rfl rfl 38 (fun vs=>by kernel_rfl) #[.tmp 31] #[22] rfl #[.slice ag m.gone.length cg] (by first|rfl|simp[Act.eval]) (aa HT Db aX) ?_
       rintro e' N5 ⟨⟨u2,l2,rfl,dQ,j8,mT⟩,ba⟩
       have eT:=ct eT ba
       have dQ:=eh dQ (show wo.heap.size≤_ from bL.size)
       rw[←j8] at dQ
       obtain ⟨DD,DC,rfl⟩:=bj dQ
       have qT:=aj (And.intro j8 mT)
       clear j8 mT
       have bo:=(ba.block _ (zA bo).1).trans bo
       have bL:=bL.trans (ba.mono bL.size)
       have aX:=aX.trans (ba.mono aX.size)
       refine ⟨_,rfl,hK _ _ ⟨fun _=>aX,?_⟩⟩
       clear hK K ba
       simp only[Act.put,zL,zM,zN]
       have hT:=aX
       refine aq 18 ((.agg #[.string y,.slice none 0 0,.slice GF l1.length GD,.slice DD l2.length DC])) 33 rfl rfl (Or.inl ⟨by rfl,fun w' hw=>by go_simp⟩) hT ?_
       simp only[Act.put,zL,zM,zN]
       clear hT
       refine ay 20 (by kernel_rfl) rfl (fun K hK=>?_)
       obtain ⟨b,rT⟩:∃b,pY.heap.size=b:=⟨_,rfl⟩
       rw[rT] at bo dr ⊢
       obtain ⟨c0,c1,c2,c3⟩:=eu bo
       have z:∀j,N5.frozen? ⟨b,j,none⟩=false:=fun j=>by simp[World.frozen?,bo]
       have z0:=z 0
       have z1:=z 1
       have z2:=z 2
       have z3:=z 3
       have hC:=xY.new (m:=⟨y,[],l1,l2⟩) bL dr bo eT dQ
       go_simp
       refine hK _ _ ⟨fun _=>(aa kp).trans (hC.ez.mono (aa kp).size),?_⟩
       clear hK K
       refine bn (by kernel_rfl) ?_
       have HC:=aj hC
       clear hC bL aX dr bo z z0 z1 z2 z3 c0 c1 c2 c3 eT dQ
       go_wp2_with fail
       go_meet
       exact ⟨b,y,l1,l2,_,_,rfl,HC,E2,AW,qT⟩
     ·obtain ⟨JD,dT⟩:∃x,oJ.alloc (.cells #[.string ⟨#[]⟩,.slice none 0 0,.slice none 0 0,.slice none 0 0] 68)=x:=⟨_,rfl⟩
      have ba:Below oJ.heap.size oJ JD:=by rw[←dT];exact (zE _ _).alloc (zD _) _
      have bo:JD.heap[oJ.heap.size]?=some (.cells #[.string ⟨#[]⟩,.slice none 0 0,.slice none 0 0,.slice none 0 0] 68 (0,0)):=by rw[←dT];exact aC _ _
      have dr:wo.heap.size≤oJ.heap.size:=bL.size
      go_simp
      have bL:=bL.trans (ba.mono bL.size)
      have aX:=aX.trans (ba.mono aX.size)
      refine hK _ _ ⟨fun _=>aX,?_⟩
      clear hK K dT ba
      refine ay 11 (by kernel_rfl) rfl (fun K hK=>?_)
      refine aN 26 rfl rfl 37 (fun vs=>by kernel_rfl) #[.tmp 25,.const (.int .i64 (-2147483648)),.const (.int .i64 2147483647)] #[62,3,3] rfl #[.slice ar m.res.length cr,.int .i64 (-2147483648),.int .i64 2147483647] (by first|rfl|simp[Act.eval]) (aa HR JD aX) ?_
      rintro e' N4 ⟨⟨u1,l1,rfl,eT,ep,vY⟩,ba⟩
      have eT:=eh eT (show wo.heap.size≤_ from bL.size)
      rw[←ep] at eT
      obtain ⟨GF,GD,rfl⟩:=bj eT
      have AW:=aj (And.intro ep vY)
      clear ep vY
      have bo:=(ba.block _ (zA bo).1).trans bo
      have bL:=bL.trans (ba.mono bL.size)
      have aX:=aX.trans (ba.mono aX.size)
      refine ⟨_,rfl,hK _ _ ⟨fun _=>aX,?_⟩⟩
      clear hK K ba
      simp only[Act.put,zL,zM,zN]
      refine ay 17 (by kernel_rfl) rfl (fun K hK=>?_)
      refine aN 32 rfl rfl 38 (fun vs=>by kernel_rfl) #[.tmp 31] #[22] rfl #[.slice ag m.gone.length cg] (by first|rfl|simp[Act.eval]) (aa HT N4 aX) ?_
      rintro e' Ri ⟨⟨u2,l2,rfl,dQ,j8,mT⟩,ba⟩
      have eT:=ct eT ba
      have dQ:=eh dQ (show wo.heap.size≤_ from bL.size)
      rw[←j8] at dQ
      obtain ⟨DD,DC,rfl⟩:=bj dQ
      have qT:=aj (And.intro j8 mT)
      clear j8 mT
      have bo:=(ba.block _ (zA bo).1).trans bo
      have bL:=bL.trans (ba.mono bL.size)
      have aX:=aX.trans (ba.mono aX.size)
      refine ⟨_,rfl,hK _ _ ⟨fun _=>aX,?_⟩⟩
      clear hK K ba
      simp only[Act.put,zL,zM,zN]
      have hT:=aX
      refine aq 18 ((.agg #[.string y,.slice none 0 0,.slice GF l1.length GD,.slice DD l2.length DC])) 33 rfl rfl (Or.inl ⟨by rfl,fun w' hw=>by go_simp⟩) hT ?_
      simp only[Act.put,zL,zM,zN]
      clear hT
      refine ay 20 (by kernel_rfl) rfl (fun K hK=>?_)
      obtain ⟨b,rT⟩:∃b,oJ.heap.size=b:=⟨_,rfl⟩
      rw[rT] at bo dr ⊢
      obtain ⟨c0,c1,c2,c3⟩:=eu bo
      have z:∀j,Ri.frozen? ⟨b,j,none⟩=false:=fun j=>by simp[World.frozen?,bo]
      have z0:=z 0
      have z1:=z 1
      have z2:=z 2
      have z3:=z 3
      have hC:=xY.new (m:=⟨y,[],l1,l2⟩) bL dr bo eT dQ
      go_simp
      refine hK _ _ ⟨fun _=>(aa kp).trans (hC.ez.mono (aa kp).size),?_⟩
      clear hK K
      refine bn (by kernel_rfl) ?_
      have HC:=aj hC
      clear hC bL aX dr bo z z0 z1 z2 z3 c0 c1 c2 c3 eT dQ
      go_wp2_with fail
      go_meet
      exact ⟨b,y,l1,l2,_,_,rfl,HC,E2,AW,qT⟩
    ·obtain ⟨zi,dT⟩:∃x,wd.alloc (.cells #[.string ⟨#[]⟩,.slice none 0 0,.slice none 0 0,.slice none 0 0] 68)=x:=⟨_,rfl⟩
     have ba:Below wd.heap.size wd zi:=by rw[←dT];exact (zE _ _).alloc (zD _) _
     have bo:zi.heap[wd.heap.size]?=some (.cells #[.string ⟨#[]⟩,.slice none 0 0,.slice none 0 0,.slice none 0 0] 68 (0,0)):=by rw[←dT];exact aC _ _
     have dr:wo.heap.size≤wd.heap.size:=bL.size
     go_simp
     have bL:=bL.trans (ba.mono bL.size)
     have aX:=aX.trans (ba.mono aX.size)
     refine hK _ _ ⟨fun _=>aX,?_⟩
     clear hK K dT ba
     refine ay 5 (by kernel_rfl) rfl (fun K hK=>?_)
     refine aN 20 rfl rfl 22 (fun vs=>by kernel_rfl) #[.tmp 19] #[9] rfl #[.string m.name] (by first|rfl|simp[Act.eval]) (fM zi m.name (aa Nd)) ?_
     rintro e' Gy ⟨⟨y,hy,rfl⟩,ba⟩
     have E2:=aj hy
     clear hy
     have bo:=(ba.block _ (zA bo).1).trans bo
     have bL:=bL.trans (ba.mono bL.size)
     have aX:=aX.trans (ba.mono aX.size)
     refine ⟨_,rfl,hK _ _ ⟨fun _=>aX,?_⟩⟩
     clear hK K ba
     simp only[Act.put,zL,zM,zN]
     refine ay 11 (by kernel_rfl) rfl (fun K hK=>?_)
     refine aN 26 rfl rfl 37 (fun vs=>by kernel_rfl) #[.tmp 25,.const (.int .i64 (-2147483648)),.const (.int .i64 2147483647)] #[62,3,3] rfl #[.slice ar m.res.length cr,.int .i64 (-2147483648),.int .i64 2147483647] (by first|rfl|simp[Act.eval]) (aa HR Gy aX) ?_
     rintro e' JF ⟨⟨u1,l1,rfl,eT,ep,vY⟩,ba⟩
     have eT:=eh eT (show wo.heap.size≤_ from bL.size)
     rw[←ep] at eT
     obtain ⟨GF,GD,rfl⟩:=bj eT
     have AW:=aj (And.intro ep vY)
     clear ep vY
     have bo:=(ba.block _ (zA bo).1).trans bo
     have bL:=bL.trans (ba.mono bL.size)
     have aX:=aX.trans (ba.mono aX.size)
     refine ⟨_,rfl,hK _ _ ⟨fun _=>aX,?_⟩⟩
     clear hK K ba
     simp only[Act.put,zL,zM,zN]
     refine ay 17 (by kernel_rfl) rfl (fun K hK=>?_)
     refine aN 32 rfl rfl 38 (fun vs=>by kernel_rfl) #[.tmp 31] #[22] rfl #[.slice ag m.gone.length cg] (by first|rfl|simp[Act.eval]) (aa HT JF aX) ?_
     rintro e' JE ⟨⟨u2,l2,rfl,dQ,j8,mT⟩,ba⟩
     have eT:=ct eT ba
     have dQ:=eh dQ (show wo.heap.size≤_ from bL.size)
     rw[←j8] at dQ
     obtain ⟨DD,DC,rfl⟩:=bj dQ
     have qT:=aj (And.intro j8 mT)
     clear j8 mT
     have bo:=(ba.block _ (zA bo).1).trans bo
     have bL:=bL.trans (ba.mono bL.size)
     have aX:=aX.trans (ba.mono aX.size)
     refine ⟨_,rfl,hK _ _ ⟨fun _=>aX,?_⟩⟩
     clear hK K ba
     simp only[Act.put,zL,zM,zN]
     have hT:=aX
     refine aq 18 ((.agg #[.string y,.slice none 0 0,.slice GF l1.length GD,.slice DD l2.length DC])) 33 rfl rfl (Or.inl ⟨by rfl,fun w' hw=>by go_simp⟩) hT ?_
     simp only[Act.put,zL,zM,zN]
     clear hT
     refine ay 20 (by kernel_rfl) rfl (fun K hK=>?_)
     obtain ⟨b,rT⟩:∃b,wd.heap.size=b:=⟨_,rfl⟩
     rw[rT] at bo dr ⊢
     obtain ⟨c0,c1,c2,c3⟩:=eu bo
     have z:∀j,JE.frozen? ⟨b,j,none⟩=false:=fun j=>by simp[World.frozen?,bo]
     have z0:=z 0
     have z1:=z 1
     have z2:=z 2
     have z3:=z 3
     have hC:=xY.new (m:=⟨y,[],l1,l2⟩) bL dr bo eT dQ
     go_simp
     refine hK _ _ ⟨fun _=>(aa kp).trans (hC.ez.mono (aa kp).size),?_⟩
     clear hK K
     refine bn (by kernel_rfl) ?_
     have HC:=aj hC
     clear hC bL aX dr bo z z0 z1 z2 z3 c0 c1 c2 c3 eT dQ
     go_wp2_with fail
     go_meet
     exact ⟨b,y,l1,l2,_,_,rfl,HC,E2,AW,qT⟩
   case rest =>
    obtain ⟨b,y,l1,l2,ur,ug,rfl,HC,E2,AW,qT⟩:=hcut
    obtain ⟨JO,JM,rfl⟩:=bj (aa HC).r
    obtain ⟨JP,JN,rfl⟩:=bj (aa HC).g
    have HN:Hid (wc.ownsRow wo.heap.size 94 2 (.slice none 0 0) 0 []):=⟨rfl,.inl ⟨rfl,rfl⟩⟩
    obtain ⟨x0,x1,x2,x3⟩:=aa iu wc ((aa kp).trans ((aa HC).ez.mono (aa kp).size))
    go_upto_region 7 with fail
    clear x0 x1 x2 x3
    go_loopg [6,7,8] m.bJ.length (fun gk v6 _ _ wi=>∃(k:Nat) (uv:Value) (Jb:List (ByteArray×Int)),v6=.int .i64 (k:Int)∧gk=m.bJ.length-k∧k≤m.bJ.length∧Hid (xY wo wi b uv (.slice JO l1.length JM) (.slice JP l2.length JN) ⟨y,[],l1,l2⟩)∧Hid (wi.ownsRow wo.heap.size 94 2 uv k (wH Jb))∧Hid (Jb.length=k∧∀p ∈ Jb,rG p.1∧-2147483648≤p.2∧p.2≤2147483647))
    case atStart=>exact ⟨0,_,[],rfl,rfl,by omega,HC,HN,rfl,fun p hp=>by cases hp⟩
    case round =>
     obtain ⟨k,uv,Jb,rfl,j9,gO,ny,A6,lE⟩:=hrel
     have nH:=aj j9
     clear j9 HC HN
     obtain ⟨Ru,Rt,rfl⟩:=bj (aa A6)
     have xl:=aj (show Below W.heap.size W wr from (aa kp).trans ((aa ny).ez.mono (aa kp).size))
     obtain ⟨x0,x1,x2,x3⟩:=aa iu wr (aa xl)
     by_cases eU:k<m.bJ.length
     ·obtain ⟨gv,ov,rfl,UG,Eg⟩:=aa X' (by omega)
      obtain ⟨p,mT⟩:∃p,m.bJ[k]?=some p:=⟨_,List.getElem?_eq_getElem eU⟩
      have X6:Hid (∀w',Below W.heap.size W w'→w'.cell? ⟨gv,ov+k*2,none⟩=some (.string p.1)∧w'.cell? ⟨gv,ov+k*2+1,none⟩=some (.int .i64 p.2)):=fun w' hb =>
       ⟨(hb.cell (p:=⟨gv,ov+(k*2),none⟩) UG).trans (Eg _ _ (Az mT).1),(hb.cell (p:=⟨gv,ov+(k*2+1),none⟩) UG).trans (Eg _ _ (Az mT).2)⟩
      have HPz:=aj ((aa ZN).bJ p (List.mem_of_getElem? mT))
      obtain ⟨p1,p2⟩:=p
      simp only at X6 HPz
      obtain ⟨y0,y1⟩:=aa X6 wr (aa xl)
      have k0':(0:Int)≤(k:Int):=zH _
      have k1':(k:Int)<(m.bJ.length:Int):=by omega
      have gN:=aj eU
      have ba:Below wr.heap.size wr (wr.alloc (.cells #[.string p1,.int .i64 p2] 94)):=(zE _ _).alloc (zD _) _
      have LI:(wr.alloc (.cells #[.string p1,.int .i64 p2] 94)).heap[wr.heap.size]?=some (.cells #[.string p1,.int .i64 p2] 94 (0,0)):=aC _ _
      obtain ⟨W2,El⟩:∃W2,wr.alloc (.cells #[.string p1,.int .i64 p2] 94)=W2:=⟨_,rfl⟩
      rw[El] at ba LI
      have xX:=aj ((aa ny).below ba)
      have U6:=aj (ct (aa A6) ba)
      have E3:Hid (∀w',Below W2.heap.size W2 w'→w'.heap[wr.heap.size]?=some (.cells #[.string p1,.int .i64 p2] 94 (0,0))):=fun w' hb=>(hb.block _ (zA LI).1).trans LI
      have HVn:Hid ((Value.slice Ru k Rt).ownBlock≠some wr.heap.size):=fun e=>by have:=((aa A6).lt _ e).2;omega
      have HW:=aj (fun w=>fM w p1 (by have:=(aa HPz).1;omega))
      clear eU mT Eg ba LI
      go_upto_region 10 with fail
      obtain ⟨d0,d1⟩:W2.cell? ⟨wr.heap.size,0,none⟩=some (.string p1)∧W2.cell? ⟨wr.heap.size,1,none⟩=some (.int .i64 p2):=⟨cell_of_row _ _ _ _ _ _ (aa E3 W2 (zE _ _)),cell_of_row _ _ _ _ _ _ (aa E3 W2 (zE _ _))⟩
      clear x0 x1 x2 x3 y0 y1
      go_wp2_with fail
      refine (aa HW W2).mono ?_
      rintro e w3 ⟨⟨nm2,Wu,rfl⟩,mC⟩
      have YC:=aj ((aa xX).below mC)
      have HO4:=aj (ct (aa U6) mC)
      have HV4:=aj (aa E3 w3 mC)
      have Yi:=aj Wu
      clear mC Wu d0 d1 xX U6 E3 HW
      go_upto_region 11 with fail
      obtain ⟨B1,FZ⟩:∃B1,(nm2.toList==[111,112,116,105,111,110])=B1:=⟨_,rfl⟩
      obtain ⟨B2,FY⟩:∃B2,(nm2.toList==[114,101,115,101,114,118,101,100])=B2:=⟨_,rfl⟩
      have mB:=aj FZ
      have iU:=aj FY
      go_cut [60] (fun v60 wx=>v60=.bool (B1 ||B2)∧wx=w3)
      case first =>
       cases B1 with
       |true =>
        go_wp2_with fail
        go_meet
        exact ⟨rfl,rfl⟩
       |false =>
        go_wp2_with fail
        go_meet
        exact ⟨rfl,rfl⟩
      case rest =>
       obtain ⟨rfl,vW⟩:=hcut
       obtain rfl:w3=wc:=vW.symm
       clear vW FZ FY
       go_upto_if 60 with fail
       go_cut [8] (fun v8 wx=>∃z,v8=.string z∧Hid (rG z)∧wx=w3)
       case first =>
        cases B1 with
        |true =>
         rw[Bool.true_or]
         go_wp2_with fail
         go_meet
         exact ⟨_,rfl,Qm,rfl⟩
        |false =>
         rw[Bool.false_or]
         cases B2 with
         |true =>
          go_wp2_with fail
          go_meet
          exact ⟨_,rfl,Qm,rfl⟩
         |false =>
          go_wp2_with fail
          go_meet
          exact ⟨nm2,rfl,Rk (aa Yi) (aa mB) (aa iU),rfl⟩
       case rest =>
        obtain ⟨z9,rfl,HVo,vW⟩:=hcut
        obtain rfl:w3=wc:=vW.symm
        clear vW mB iU Yi
        go_upto_region 13 with fail
        obtain ⟨vb,tW⟩:∃vb,wr.heap.size=vb:=⟨_,rfl⟩
        rw[tW] at HV4 HVn ⊢
        have Hvb:=aj tW
        clear tW
        refine wp_region_any (by kernel_rfl) (ck (z:=10) (T:=fun w'=>w'.cell? ⟨b,1,none⟩=some (.slice Ru k Rt)∧w'.cell? ⟨vb,1,none⟩=some (.int .i64 p2)) _ _ _ _ ?_)
        try (change cL _ _ _ _ _ _ _ _ _ (World.drew _))
        have hC:=(aa YC).below (below_drewN (zE w3.heap.size w3) 1)
        have hO:=ct (aa HO4) (below_drewN (zE w3.heap.size w3) 1)
        have hV:w3.drew.heap[vb]?=some (.cells #[.string p1,.int .i64 p2] 94 (0,0)):=aa HV4
        change xY _ w3.drew _ _ _ _ _ at hC
        change World.ownsRow w3.drew _ _ _ _ _ _ at hO
        obtain ⟨wd,jb⟩:∃x,w3.drew=x:=⟨_,rfl⟩
        rw[jb] at hC hO hV ⊢
        have hT:(fun w':World=>w'.cell? ⟨b,1,none⟩=some (.slice Ru k Rt)∧w'.cell? ⟨vb,1,none⟩=some (.int .i64 p2)) wd:=⟨cell_of_row _ _ _ _ _ _ hC.dt,cell_of_row _ _ _ _ _ _ hV⟩
        refine aq 0 (.pointer (some ⟨b,1,none⟩)) 61 rfl rfl (Or.inl ⟨by rfl,fun w' hw=>by obtain ⟨t0,t1⟩:=hw;go_simp⟩) hT ?_
        simp only[Act.put,zL,zM,zN]
        refine aq 1 (.slice Ru k Rt) 62 rfl rfl (Or.inl ⟨by rfl,fun w' hw=>by obtain ⟨t0,t1⟩:=hw;go_simp⟩) hT ?_
        simp only[Act.put,zL,zM,zN]
        refine aq 2 (.string z9) 63 rfl rfl (Or.inl ⟨by rfl,fun w' hw=>by obtain ⟨t0,t1⟩:=hw;go_simp⟩) hT ?_
        simp only[Act.put,zL,zM,zN]
        refine aq 3 (.pointer (some ⟨vb,1,none⟩)) 64 rfl rfl (Or.inl ⟨by rfl,fun w' hw=>by obtain ⟨t0,t1⟩:=hw;go_simp⟩) hT ?_
        simp only[Act.put,zL,zM,zN]
        refine aq 4 (.int .i64 p2) 65 rfl rfl (Or.inl ⟨by rfl,fun w' hw=>by obtain ⟨t0,t1⟩:=hw;go_simp⟩) hT ?_
        simp only[Act.put,zL,zM,zN]
        refine ay 5 (by kernel_rfl) rfl (fun K hK=>?_)
        refine aN 66 rfl rfl 11 (fun vs=>by kernel_rfl) #[.tmp 65,.const (.int .i64 (-2147483648)),.const (.int .i64 2147483647)] #[3,3,3] rfl #[.int .i64 p2,.int .i64 (-2147483648),.int .i64 2147483647] (by first|rfl|simp[Act.eval]) (dZ wd (aa HPz).2 (by decide) (by decide) (by decide)) ?_
        rintro e' Ri ⟨⟨q,hq,rfl⟩,hw9⟩
        obtain rfl:wd=Ri:=hw9.symm
        refine ⟨_,rfl,hK _ _ ⟨fun _=>hT,?_⟩⟩
        have HQ:=aj hq
        clear hK K hw9 hq
        simp only[Act.put,zL,zM,zN]
        refine aq 6 (.agg #[.string z9,.int .i64 q]) 67 rfl rfl (Or.inl ⟨by rfl,fun w' hw=>by obtain ⟨t0,t1⟩:=hw;go_simp⟩) hT ?_
        simp only[Act.put,zL,zM,zN]
        obtain ⟨wy,Lf⟩:∃x,wd.alloc (.cells #[.string z9,.int .i64 q] 94)=x:=⟨_,rfl⟩
        have ba:Below wd.heap.size wd wy:=by rw[←Lf];exact (zE _ _).alloc (zD _) _
        have hC:=hC.below ba
        have hO:=ct hO ba
        have hV:=(ba.block _ (zA hV).1).trans hV
        have hT:(fun w':World=>w'.cell? ⟨b,1,none⟩=some (.slice Ru k Rt)∧w'.cell? ⟨vb,1,none⟩=some (.int .i64 p2)) wy:=⟨cell_of_row _ _ _ _ _ _ hC.dt,cell_of_row _ _ _ _ _ _ hV⟩
        have Wt:∀j u,[Value.string z9,.int .i64 q][j]?=some u→wy.cell? ((⟨wd.heap.size,0,none⟩:Addr).add j)=some u:=by rw[←Lf];exact yX _ _ _ _
        refine ay 7 (by kernel_rfl) rfl (fun K hK=>?_)
        go_simp
        refine hK _ _ ⟨fun _=>hT,?_⟩
        clear hK K Lf ba jb
        refine ay 8 (by kernel_rfl) rfl (fun K hK=>?_)
        refine oX 69 rfl rfl (.tmp 62) (.tmp 68) 66 rfl wo.heap.size 94 j0 (.agg #[.string ByteArray.empty,.int .i64 0]) 2 24 Tryz.underlying66 hj VX VW VV rfl (by decide) (.slice Ru k Rt) k _ (by first|rfl|simp[Act.eval]) hO ⟨wd.heap.size,0,none⟩ 1 1 [.string z9,.int .i64 q] (by first|rfl|simp[Act.eval]) rfl Wt (by simp[Value.oneCell']) (by have:=aa gN;have:=(aa ZN).vl;unfold maxLen;omega) (by have:=aa gN;have:=(aa ZN).vl;omega) hC.ez.size ?_
        intro v' w2 ho dP _
        have Xo:=hC.aaq dP (fun j e=>(hO.lt j e).1) (bF hO hC.dt (by decide)) (lL hO hC.r (by decide)) (lL hO hC.g (by decide))
        obtain ⟨a',c',rfl⟩:=bj ho
        have hV2:=(dP.block _ (zA hV).1 (fun e=>aa HVn e.symm)).trans hV
        have jR:(fun w':World=>w'.cell? ⟨b,1,none⟩=some (.slice Ru k Rt)∧w'.cell? ⟨vb,1,none⟩=some (.int .i64 p2)) w2:=⟨cell_of_row _ _ _ _ _ _ Xo.dt,cell_of_row _ _ _ _ _ _ hV2⟩
        refine hK _ _ ⟨fun _=>jR,?_⟩
        clear hK K hC hO hT dP Wt hV
        simp only[Act.put,zL,zM,zN]
        refine ay 9 (by kernel_rfl) rfl (fun K hK=>?_)
        go_simp
        refine hK _ _ ⟨fun _=>jR,?_⟩
        clear hK K
        have SQ:=jR.1
        have UI:w2.frozen? ⟨b,1,none⟩=false:=by simp[World.frozen?,Xo.dt]
        obtain ⟨Zy,eY⟩:=Xo.val (.slice a' (k+1) c')
        have SY:=ho.kept eY (.inr (bF ho Xo.dt (by decide)))
        refine ay 10 (by kernel_rfl) rfl (fun K hK=>?_)
        go_simp
        refine hK _ _ ⟨fun h=>absurd rfl h,?_⟩
        have HC9:=aj Zy
        have HO9:=aj SY
        clear hK K SQ UI jR ho Xo Zy SY eY hV2
        refine bn (by kernel_rfl) ?_
        have hvL:m.bJ.length≤1048576:=(aa ZN).vl
        go_wp2
        go_roundg (m.bJ.length-(k+1))
        case measure=>have:=aa nH;have:=aa gN;omega
        case rel =>
         refine ⟨k+1,_,Jb++[(z9,q)],by go_num,rfl,aa gN,HC9,by rw[F8];exact HO9,by rw[zK,(aa lE).1];rfl,fun p hp=>?_⟩
         rcases List.mem_append.1 hp with hp|hp
         ·exact (aa lE).2 p hp
         ·rw[List.mem_singleton.1 hp];exact ⟨aa HVo,aa HQ⟩
     ·obtain rfl:k=m.bJ.length:=by omega
      have k1':¬(m.bJ.length:Int)<(m.bJ.length:Int):=by omega
      go_upto_region 14 with fail
      clear x0 x1 x2 x3
      obtain ⟨c0,c1,c2,c3⟩:=eu (aa ny).dt
      go_cut [74] (fun v74 wx=>v74=.bool (decide (m.bJ.length=0))∧wx=wr)
      case first =>
       go_wp2_with fail
       go_meet
       refine ⟨congrArg Value.bool ?_,rfl⟩
       rw[Bool.eq_iff_iff,beq_iff_eq,decide_eq_true_iff]
       omega
      case rest =>
       obtain ⟨rfl,vW⟩:=hcut
       obtain rfl:wr=wc:=vW.symm
       clear vW
       go_upto_if 74 with fail
       go_cut [] (fun wx=>∃(uv2:Value) (kS:List (ByteArray×Int)),Hid (xY wo wx b uv2 (.slice JO l1.length JM) (.slice JP l2.length JN) ⟨y,[],l1,l2⟩)∧Hid (wx.ownsRow wo.heap.size 94 2 uv2 kS.length (wH kS))∧Hid (kS≠[]∧kS.length≤m.bJ.length+1∧∀p ∈ kS,rG p.1∧-2147483648≤p.2∧p.2≤2147483647))
       case first =>
        by_cases V2:m.bJ.length=0
        ·rw[decide_eq_true V2]
         go_upto_region 15 with fail
         obtain ⟨wy,Lf⟩:∃x,wr.alloc (.cells #[.string ⟨#[90]⟩,.int .i64 0] 94)=x:=⟨_,rfl⟩
         have ba:Below wr.heap.size wr wy:=by rw[←Lf];exact (zE _ _).alloc (zD _) _
         have hvz:wy.heap[wr.heap.size]?=some (.cells #[.string ⟨#[90]⟩,.int .i64 0] 94 (0,0)):=by rw[←Lf];exact aC _ _
         have dr:=(aa ny).ez.size
         have hC:=(aa ny).below ba
         obtain ⟨e0,e1,e2,e3⟩:=eu hC.dt
         have UI:wy.frozen? ⟨b,1,none⟩=false:=by simp[World.frozen?,hC.dt]
         clear c0 c1 c2 c3
         have abx:¬m.bJ.length≠0:=fun e=>e V2
         clear V2
         go_wp2_with (rw[Lf])
         obtain ⟨Zy,eY⟩:=hC.val (.slice (some ⟨wr.heap.size,0,none⟩) 1 1)
         have hO:wy.ownsRow wo.heap.size 94 2 (.slice (some ⟨wr.heap.size,0,none⟩) 1 1) 1 (wH [(⟨#[90]⟩,0)]):=⟨rfl,.inr ⟨wr.heap.size,1,_,rfl,dr,hvz,zD _,by decide,rfl,rfl⟩⟩
         have SY:=hO.kept eY (.inr (bF hO hC.dt (by decide)))
         go_meet
         exact ⟨_,[(⟨#[90]⟩,0)],Zy,SY,by simp,by simp,fun p hp=>by rw[List.mem_singleton.1 hp];exact ⟨Vl,by decide,by decide⟩⟩
        ·rw[decide_eq_false V2]
         go_wp2_with fail
         go_meet
         exact ⟨_,Jb,ny,by rw[(aa lE).1];exact A6,fun e=>V2 (by rw[←(aa lE).1,e];rfl),by have:=(aa lE).1;omega,(aa lE).2⟩
       case rest =>
        obtain ⟨uv2,kS,YB,HO7,HV7⟩:=hcut
        obtain ⟨a7,c7,rfl⟩:=bj (aa HO7)
        have qS:=aj (show w0.heap.size≤wc.heap.size from Nat.le_trans (aa HB).size (aa YB).ez.size)
        have HO5:=aj (ct (aa HO) ((aa YB).ez))
        have AX:=aj ((aa HB).trans ((aa YB).ez.mono (aa HB).size))
        clear c0 c1 c2 c3
        go_upto_region 16 with fail
        have hC8:xY wo wc b (.slice a7 kS.length c7) (.slice JO l1.length JM) (.slice JP l2.length JN) ⟨y,kS,l1,l2⟩:=by
         have h:=aa YB
         exact ⟨h.ez,h.low,h.dt,h.r,h.g⟩
        obtain ⟨c0,c1,c2,c3⟩:=eu hC8.dt
        have HC8:=aj hC8
        clear hC8 YB
        obtain ⟨ao,co,rfl⟩:=bj (aa HO)
        have HEK:Hid (C' ⟨y,kS,l1,l2⟩∧mY ⟨y,kS,l1,l2⟩≤Gb m):=by
         have h7:=aa HV7
         refine ⟨⟨aa E2,h7.1,h7.2.2,(aa AW).2,(aa qT).2⟩,?_⟩
         show 20*l1.length+10*l2.length+20*kS.length+60≤20*m.res.length+10*m.gone.length+20*m.bJ.length+80
         have:=h7.2.1
         have:=(aa AW).1
         have:=(aa qT).1
         omega
        go_wp2_with (at_builtin;refine wpList_append_own_at _ rfl _ _ 24 rfl w0.heap.size 68 i0 (.agg #[.string ByteArray.empty,.slice none 0 0,.slice none 0 0,.slice none 0 0]) 4 88 Tryz.underlying24 hi nD nC oK rfl (by decide) _ _ _ rfl ((aa HO5).alloc _) ⟨wc.heap.size,0,none⟩ 1 1 [.string y,.slice a7 kS.length c7,.slice JO l1.length JM,.slice JP l2.length JN] rfl rfl (nv _ _ _) (by simp[Value.oneCell']) (by have:=aa dA;unfold maxLen;omega) (by have:=aa dA;have:=aa Hl;omega) (by rw[zJ];have:=aa qS;omega) ?_;intro v' w2 ho dP _ yC;have HO6:=aj ho;have Ua:=aj (Kt (aa HO) (aa Yw) (aa HC8) (aa HO7) (aa HB).size ((zE _ _).alloc (zD _) _) dP yC);have YE:=aj (((aa AX).alloc (aa AX).size _).grown dP (by rw[zJ];have:=aa qS;omega) (fun q e=>((aa HO).lt q e).1));clear ho dP yC)
        go_roundg (l.length-(i+1))
        case measure=>have:=aa fQ;have:=aa dA;omega
        case rel =>
         refine ⟨i+1,_,acc++[⟨y,kS,l1,l2⟩],by go_num,rfl,aa dA,HO6,Ua,?_,YE⟩
         obtain ⟨q1,q2,q3⟩:=aa YI
         refine ⟨by rw[zK,q1];rfl,fun e he=>?_,?_⟩
         ·rcases List.mem_append.1 he with he|he
          ·exact q2 e he
          ·rw[List.mem_singleton.1 he];exact (aa HEK).1
         ·rw[jX,eX Gb (aa Hr)]
          have:=(aa HEK).2
          simp only[bG]
          omega
  ·obtain rfl:i=l.length:=by omega
   have hA:=aa YI
   rw[List.take_length] at hA
   have lE:=aj hA
   clear hA
   go_wp2
   go_ret
   exact ⟨⟨_,mq,acc,rfl,aa HO,aa Yw,(aa lE).1,(aa lE).2.1,(aa lE).2.2⟩,aa HB⟩
end Go.Proofs.YtmlphohdcejniaaGreatDoor

import Derived.Test.YtmlphohdcejniaaGreatDoorM46
set_option maxHeartbeats 16000000
set_option maxRecDepth 100000
namespace Go.Proofs.YtmlphohdcejniaaGreatDoor
open Go.RowKit
attribute [local go_sem ↓] Go.wp_at_zero Go.wp_at_succ
theorem wG {w:World}{b:Nat}{v0 v1 v2 v3 v4 v5:Value}{t:TypeId} (hn:w.heap[b]?=some (.cells #[v0,v1,v2,v3,v4,v5] t (0,0))):w.cell? ⟨b,0,none⟩=some v0∧w.cell? ⟨b,1,none⟩=some v1∧w.cell? ⟨b,2,none⟩=some v2∧w.cell? ⟨b,3,none⟩=some v3∧w.cell? ⟨b,4,none⟩=some v4∧w.cell? ⟨b,5,none⟩=some v5 :=
 ⟨cell_of_row _ _ _ _ _ _ hn,cell_of_row _ _ _ _ _ _ hn,cell_of_row _ _ _ _ _ _ hn,cell_of_row _ _ _ _ _ _ hn,cell_of_row _ _ _ _ _ _ hn,cell_of_row _ _ _ _ _ _ hn⟩
theorem pI {q0 q4:Int}{ps:List ByteArray}{xn:ByteArray} (h0:1≤q0∧q0≤4) (hp:lC ps) (hn:aU xn) (h4:0≤q4∧q4≤2147483647):Qh ⟨q0,⟨#[]⟩,gQ ps,xn,q4,0⟩:=⟨⟨ps,rfl,hp,hn,h4⟩,rfl,h0,rfl⟩
theorem kA {w:World}{b:Nat}{v0 v1 v2 v3 v4 v5 v6:Value}{t:TypeId} (hn:w.heap[b]?=some (.cells #[v0,v1,v2,v3,v4,v5,v6] t (0,0))):w.cell? ⟨b,0,none⟩=some v0∧w.cell? ⟨b,1,none⟩=some v1∧w.cell? ⟨b,2,none⟩=some v2∧w.cell? ⟨b,3,none⟩=some v3∧w.cell? ⟨b,4,none⟩=some v4∧w.cell? ⟨b,5,none⟩=some v5∧w.cell? ⟨b,6,none⟩=some v6 :=
 ⟨cell_of_row _ _ _ _ _ _ hn,cell_of_row _ _ _ _ _ _ hn,cell_of_row _ _ _ _ _ _ hn,cell_of_row _ _ _ _ _ _ hn,cell_of_row _ _ _ _ _ _ hn,cell_of_row _ _ _ _ _ _ hn,cell_of_row _ _ _ _ _ _ hn⟩
theorem B3:P1 0:=by
 intro W v l cs hv _ _ _ w0 hw _
 obtain ⟨a,c,rfl,hn,-⟩:=hv
 have HB:=aj (zE w0.heap.size w0)
 clear hw
 go_enter Tryz.func16,Tryz.ntmps16
 go_wp2
 go_loopg [5,6,7,8,9,10] 1 (fun gk v5 v6 _ _ _ _ wr=>v5=.slice none 0 0∧v6=.int .i64 0∧gk=1∧Hid (wr=w0))
 case atStart=>exact ⟨rfl,rfl,rfl,rfl⟩
 case round =>
  obtain ⟨rfl,rfl,eN,HW⟩:=hrel
  clear eN
  by_cases h0:(0:Int)<(l.length:Int)
  ·go_wp2
   go_ret
   have:=aa HW
   subst this
   first|exact ⟨⟨_,[],[],rfl,⟨rfl,.inl ⟨rfl,rfl⟩⟩,.nil,fun e he=>by (cases he),Nat.zero_le _⟩,aa HB⟩|exact ⟨⟨_,rfl,[],[],⟨rfl,.inl ⟨rfl,rfl⟩⟩,.nil,fun e he=>by (cases he),Nat.zero_le _⟩,aa HB⟩
  ·go_wp2
   go_ret
   have:=aa HW
   subst this
   first|exact ⟨⟨_,[],[],rfl,⟨rfl,.inl ⟨rfl,rfl⟩⟩,.nil,fun e he=>by (cases he),Nat.zero_le _⟩,aa HB⟩|exact ⟨⟨_,rfl,[],[],⟨rfl,.inl ⟨rfl,rfl⟩⟩,.nil,fun e he=>by (cases he),Nat.zero_le _⟩,aa HB⟩
theorem B0 {f:Nat} (hf:f<30) (ih:P1 f):P1 (f+1):=by
 intro W v l cs hv hm hl hz w0 hw hM
 obtain ⟨a,c,rfl,hn,h2⟩:=hv
 obtain ⟨i0,hi,nD,nC,oK⟩:=info_parts Sj
 obtain ⟨j0,hj,VX,VW,VV⟩:=info_parts Sk
 obtain ⟨s0,hs,mG,sz1,sz2⟩:=info_parts Sh
 obtain ⟨dz,A0⟩:∃z,(30-((f+1:Nat):Int))=z:=⟨_,rfl⟩
 rw[A0]
 have A1:0≤dz:=by omega
 have hd1:dz<30:=by omega
 have Hdz:=aj (show dz+1=30-(f:Int) by omega)
 have H2:=aj h2
 have HW:=aj hw
 have Hl:=aj hl
 have Hms:=aj hm
 have Hz:=aj hz
 have Hih:=aj ih
 have HM:=aj hM
 clear h2 hw hl hm hz ih A0 hf hM
 go_enter Tryz.func16,Tryz.ntmps16
 go_wp2
 go_loopg [5,6,7,8,9,10] l.length (fun gk v5 v6 _ _ _ _ wr=>∃(i:Nat) (mq:List Value) (acc:List Ms),v6=.int .i64 (i:Int)∧gk=l.length-i∧i≤l.length∧Hid (wr.ownsRow w0.heap.size 64 7 v5 i mq)∧Hid (di (Rest w0.heap.size v5) wr mq acc)∧Hid (acc.length=i∧(∀m ∈ acc,EZ (f+1) m)∧bG (mw (f+1)) acc≤bG (DX (f+1)) (l.take i))∧Hid (Below w0.heap.size w0 wr))
 case atStart=>exact ⟨0,[],[],rfl,rfl,by omega,⟨rfl,.inl ⟨rfl,rfl⟩⟩,.nil,⟨rfl,fun e he=>by (cases he),zD _⟩,zE _ _⟩
 case round =>
  obtain ⟨i,mq,acc,rfl,eN,pC,HO,Yw,YI,HB⟩:=hrel
  have fQ:=aj eN
  clear eN
  obtain ⟨wo,Sr⟩:∃x,x=wr:=⟨_,rfl⟩
  subst Sr
  by_cases cc:i<l.length
  ·obtain ⟨g,o,rfl,hg,hc⟩:=aa H2 (by omega)
   obtain ⟨m,hr⟩:∃m,l[i]?=some m:=⟨_,List.getElem?_eq_getElem cc⟩
   have Lv:=List.mem_of_getElem? hr
   obtain ⟨vf,vo,vm,ve,vr,vg,nm,fs,os,ms,es,rs,gs,cm,ce,Sy,hV⟩:=(aa Hms).at i m hr
   obtain rfl:=hV.is
   obtain ⟨Nz,hzi⟩:=aa Hz _ Lv
   have kp:=aj (show Below W.heap.size W wo from (aa HW).trans ((aa HB).mono (aa HW).size))
   have iu:Hid (∀w',Below W.heap.size W w'→w'.cell? ⟨g,o+i*7,none⟩=some (.string nm)∧w'.cell? ⟨g,o+i*7+1,none⟩=some vf∧w'.cell? ⟨g,o+i*7+2,none⟩=some vo∧w'.cell? ⟨g,o+i*7+3,none⟩=some vm∧w'.cell? ⟨g,o+i*7+4,none⟩=some ve∧w'.cell? ⟨g,o+i*7+5,none⟩=some vr∧w'.cell? ⟨g,o+i*7+6,none⟩=some vg):=by
    intro w' hb
    have key:∀(j:Nat) (x:Value),[Value.string nm,vf,vo,vm,ve,vr,vg][j]?=some x→w'.cell? ⟨g,o+(i*7+j),none⟩=some x:=fun j x hx=>(hb.cell (p:=⟨g,o+(i*7+j),none⟩) hg).trans (hc _ _ (by
     rw[←Sy,List.getElem?_take,List.getElem?_drop] at hx
     split at hx
     ·exact hx
     ·cases hx))
    exact ⟨key 0 _ rfl,key 1 _ rfl,key 2 _ rfl,key 3 _ rfl,key 4 _ rfl,key 5 _ rfl,key 6 _ rfl⟩
   have Nd:=aj (show nm.size≤140737488351232 by have:=Nz.nm;omega)
   have HR:=aj (fun w' hb=>BB (lo:=1) (hi:=536870911) (by decide) (by decide) (by decide) hV.hr Nz.rl Nz.res w' hb)
   have HT:=aj (fun w' hb=>x8 hV.hg Nz.gl Nz.gone w' hb)
   have Ym:=aj (fun w' hb=>aa Hih W vm ms cm hV.hm hV.jQ Nz.ml hzi w' hb (aa HM))
   rw[←aa Hdz] at Ym
   have xW:=aj (fun w' hb=>wJ hV.he hV.mx Nz.el Nz.es w' hb)
   obtain ⟨af,cf,rfl,Uz,Li⟩:=hV.hf
   obtain ⟨ao,co,rfl,-,-⟩:=hV.ho
   obtain ⟨am,PJ,rfl,-,-⟩:=hV.hm
   obtain ⟨ae,QR,rfl,-,-⟩:=hV.he
   obtain ⟨ar,cr,rfl,-,-⟩:=hV.hr
   obtain ⟨ag,cg,rfl,-,-⟩:=hV.hg
   have X':=aj Li
   have i0':(0:Int)≤(i:Int):=zH _
   have i1:(i:Int)<(l.length:Int):=by omega
   have dA:=aj cc
   have Hr:=aj hr
   have HS:=aj Nz
   clear hc Lv Sy Li cc hr hV Nz hzi
   go_upto_region 5 with fail
   go_cut [7] (fun v7 wx=>∃(b:Nat) (y:ByteArray) (l1:List (Int×Int)) (l2:List ByteArray) (ur ug:Value),v7=.pointer (some ⟨b,0,none⟩)∧Hid (tL wo wx b (.slice none 0 0) (.slice none 0 0) ur ug y [] [] l1 l2)∧Hid (aU y)∧Hid (l1.length=rs.length∧AP 1 536870911 l1)∧Hid (l2.length=gs.length∧∀x ∈ l2,aU x))
   case first =>
    refine wp_region_any (by kernel_rfl) (ck (z:=99) (T:=fun w'=>Below W.heap.size W w') _ _ _ _ ?_)
    try (change cL _ _ _ _ _ _ _ _ _ (World.drew _))
    have aX:Below W.heap.size W wo.drew:=below_drewN (aa kp) 1
    have bL:Below wo.heap.size wo wo.drew:=below_drewN (zE wo.heap.size wo) 1
    obtain ⟨wd,jb⟩:∃x,wo.drew=x:=⟨_,rfl⟩
    rw[jb] at aX bL ⊢
    have hT:=aX
    refine aq 0 (.slice (some ⟨g,o,none⟩) l.length c) 21 rfl rfl (Or.inl ⟨by rfl,fun w' hw=>by obtain ⟨x0,x1,x2,x3,x4,x5,x6⟩:=aa iu w' hw;go_simp⟩) hT ?_
    simp only[Act.put,zL,zM,zN]
    refine aq 1 (.int .i64 (i:Int)) 22 rfl rfl (Or.inl ⟨by rfl,fun w' hw=>by obtain ⟨x0,x1,x2,x3,x4,x5,x6⟩:=aa iu w' hw;go_simp⟩) hT ?_
    simp only[Act.put,zL,zM,zN]
    refine aq 2 (.pointer (some ⟨g,o+i*7,none⟩)) 23 rfl rfl (Or.inl ⟨by rfl,fun w' hw=>by obtain ⟨x0,x1,x2,x3,x4,x5,x6⟩:=aa iu w' hw;go_simp⟩) hT ?_
    simp only[Act.put,zL,zM,zN]
    refine aq 3 (.pointer (some ⟨g,o+i*7,none⟩)) 24 rfl rfl (Or.inl ⟨by rfl,fun w' hw=>by obtain ⟨x0,x1,x2,x3,x4,x5,x6⟩:=aa iu w' hw;go_simp⟩) hT ?_
    simp only[Act.put,zL,zM,zN]
    refine aq 4 (.string nm) 25 rfl rfl (Or.inl ⟨by rfl,fun w' hw=>by obtain ⟨x0,x1,x2,x3,x4,x5,x6⟩:=aa iu w' hw;go_simp⟩) hT ?_
    simp only[Act.put,zL,zM,zN]
    refine aq 6 (.slice (some ⟨g,o,none⟩) l.length c) 27 rfl rfl (Or.inl ⟨by rfl,fun w' hw=>by obtain ⟨x0,x1,x2,x3,x4,x5,x6⟩:=aa iu w' hw;go_simp⟩) hT ?_
    simp only[Act.put,zL,zM,zN]
    refine aq 7 (.int .i64 (i:Int)) 28 rfl rfl (Or.inl ⟨by rfl,fun w' hw=>by obtain ⟨x0,x1,x2,x3,x4,x5,x6⟩:=aa iu w' hw;go_simp⟩) hT ?_
    simp only[Act.put,zL,zM,zN]
    refine aq 8 (.pointer (some ⟨g,o+i*7,none⟩)) 29 rfl rfl (Or.inl ⟨by rfl,fun w' hw=>by obtain ⟨x0,x1,x2,x3,x4,x5,x6⟩:=aa iu w' hw;go_simp⟩) hT ?_
    simp only[Act.put,zL,zM,zN]
    refine aq 9 (.pointer (some ⟨g,o+i*7+5,none⟩)) 30 rfl rfl (Or.inl ⟨by rfl,fun w' hw=>by obtain ⟨x0,x1,x2,x3,x4,x5,x6⟩:=aa iu w' hw;go_simp⟩) hT ?_
    simp only[Act.put,zL,zM,zN]
    refine aq 10 (.slice ar rs.length cr) 31 rfl rfl (Or.inl ⟨by rfl,fun w' hw=>by obtain ⟨x0,x1,x2,x3,x4,x5,x6⟩:=aa iu w' hw;go_simp⟩) hT ?_
    simp only[Act.put,zL,zM,zN]
    refine aq 12 (.slice (some ⟨g,o,none⟩) l.length c) 33 rfl rfl (Or.inl ⟨by rfl,fun w' hw=>by obtain ⟨x0,x1,x2,x3,x4,x5,x6⟩:=aa iu w' hw;go_simp⟩) hT ?_
    simp only[Act.put,zL,zM,zN]
    refine aq 13 (.int .i64 (i:Int)) 34 rfl rfl (Or.inl ⟨by rfl,fun w' hw=>by obtain ⟨x0,x1,x2,x3,x4,x5,x6⟩:=aa iu w' hw;go_simp⟩) hT ?_
    simp only[Act.put,zL,zM,zN]
    refine aq 14 (.pointer (some ⟨g,o+i*7,none⟩)) 35 rfl rfl (Or.inl ⟨by rfl,fun w' hw=>by obtain ⟨x0,x1,x2,x3,x4,x5,x6⟩:=aa iu w' hw;go_simp⟩) hT ?_
    simp only[Act.put,zL,zM,zN]
    refine aq 15 (.pointer (some ⟨g,o+i*7+6,none⟩)) 36 rfl rfl (Or.inl ⟨by rfl,fun w' hw=>by obtain ⟨x0,x1,x2,x3,x4,x5,x6⟩:=aa iu w' hw;go_simp⟩) hT ?_
    simp only[Act.put,zL,zM,zN]
    refine aq 16 (.slice ag gs.length cg) 37 rfl rfl (Or.inl ⟨by rfl,fun w' hw=>by obtain ⟨x0,x1,x2,x3,x4,x5,x6⟩:=aa iu w' hw;go_simp⟩) hT ?_
    simp only[Act.put,zL,zM,zN]
    clear hT
    refine dj 5 19 (by kernel_rfl) rfl rfl (fun K hK=>?_) (fun K hK=>?_)
    ·refine aN 26 rfl rfl 22 (fun vs=>by kernel_rfl) #[.tmp 25] #[9] rfl #[.string nm] (by first|rfl|simp[Act.eval]) (fM wd nm (aa Nd)) ?_
     rintro e' oJ ⟨⟨y,hy,rfl⟩,ba⟩
     have E2:=aj hy
     clear hy
     have bL:=bL.trans (ba.mono bL.size)
     have aX:=aX.trans (ba.mono aX.size)
     refine ⟨_,rfl,hK _ _ ⟨fun _=>aX,?_⟩⟩
     clear hK K ba
     simp only[Act.put,zL,zM,zN]
     refine dj 11 19 (by kernel_rfl) rfl rfl (fun K hK=>?_) (fun K hK=>?_)
     ·refine aN 32 rfl rfl 37 (fun vs=>by kernel_rfl) #[.tmp 31,.const (.int .i64 1),.const (.int .i64 536870911)] #[62,3,3] rfl #[.slice ar rs.length cr,.int .i64 1,.int .i64 536870911] (by first|rfl|simp[Act.eval]) (aa HR oJ aX) ?_
      rintro e' pY ⟨⟨u1,l1,rfl,eT,ep,vY⟩,ba⟩
      have eT:=eh eT (show wo.heap.size≤_ from bL.size)
      rw[←ep] at eT
      obtain ⟨GF,GD,rfl⟩:=bj eT
      have AW:=aj (And.intro ep vY)
      clear ep vY
      have bL:=bL.trans (ba.mono bL.size)
      have aX:=aX.trans (ba.mono aX.size)
      refine ⟨_,rfl,hK _ _ ⟨fun _=>aX,?_⟩⟩
      clear hK K ba
      simp only[Act.put,zL,zM,zN]
      refine dj 17 19 (by kernel_rfl) rfl rfl (fun K hK=>?_) (fun K hK=>?_)
      ·refine aN 38 rfl rfl 38 (fun vs=>by kernel_rfl) #[.tmp 37] #[22] rfl #[.slice ag gs.length cg] (by first|rfl|simp[Act.eval]) (aa HT pY aX) ?_
       rintro e' pX ⟨⟨u2,l2,rfl,dQ,j8,mT⟩,ba⟩
       have eT:=ct eT ba
       have dQ:=eh dQ (show wo.heap.size≤_ from bL.size)
       rw[←j8] at dQ
       obtain ⟨DD,DC,rfl⟩:=bj dQ
       have qT:=aj (And.intro j8 mT)
       clear j8 mT
       have bL:=bL.trans (ba.mono bL.size)
       have aX:=aX.trans (ba.mono aX.size)
       refine ⟨_,rfl,hK _ _ ⟨fun _=>aX,?_⟩⟩
       clear hK K ba
       simp only[Act.put,zL,zM,zN]
       have hT:=aX
       refine aq 18 ((.agg #[.string y,.slice none 0 0,.slice none 0 0,.slice none 0 0,.slice none 0 0,.slice GF l1.length GD,.slice DD l2.length DC])) 39 rfl rfl (Or.inl ⟨by rfl,fun w' hw=>by go_simp⟩) hT ?_
       simp only[Act.put,zL,zM,zN]
       clear hT
       refine ay 19 (by kernel_rfl) rfl (fun K hK=>?_)
       obtain ⟨zh,dT⟩:∃x,pX.alloc (.cells #[.string ⟨#[]⟩,.slice none 0 0,.slice none 0 0,.slice none 0 0,.slice none 0 0,.slice none 0 0,.slice none 0 0] 64)=x:=⟨_,rfl⟩
       have ba:Below pX.heap.size pX zh:=by rw[←dT];exact (zE _ _).alloc (zD _) _
       have bo:zh.heap[pX.heap.size]?=some (.cells #[.string ⟨#[]⟩,.slice none 0 0,.slice none 0 0,.slice none 0 0,.slice none 0 0,.slice none 0 0,.slice none 0 0] 64 (0,0)):=by rw[←dT];exact aC _ _
       have dr:wo.heap.size≤pX.heap.size:=bL.size
       go_simp
       have eT:=ct eT ba
       have dQ:=ct dQ ba
       have bL:=bL.trans (ba.mono bL.size)
       have aX:=aX.trans (ba.mono aX.size)
       refine hK _ _ ⟨fun _=>aX,?_⟩
       clear hK K dT ba
       refine ay 20 (by kernel_rfl) rfl (fun K hK=>?_)
       obtain ⟨b,rT⟩:∃b,pX.heap.size=b:=⟨_,rfl⟩
       rw[rT] at bo dr ⊢
       obtain ⟨c0,c1,c2,c3,c4,c5,c6⟩:=kA bo
       have z:∀j,zh.frozen? ⟨b,j,none⟩=false:=fun j=>by simp[World.frozen?,bo]
       have z0:=z 0
       have z1:=z 1
       have z2:=z 2
       have z3:=z 3
       have z4:=z 4
       have z5:=z 5
       have z6:=z 6
       have hC:=tL.new (nm:=y) bL dr bo eT dQ
       go_simp
       refine hK _ _ ⟨fun _=>(aa kp).trans (hC.ez.mono (aa kp).size),?_⟩
       clear hK K
       refine bn (by kernel_rfl) ?_
       have HC:=aj hC
       clear hC bL aX dr bo z z0 z1 z2 z3 z4 z5 z6 c0 c1 c2 c3 c4 c5 c6 eT dQ
       go_wp2_with fail
       go_meet
       exact ⟨b,y,l1,l2,_,_,rfl,HC,E2,AW,qT⟩
      ·obtain ⟨Db,dT⟩:∃x,pY.alloc (.cells #[.string ⟨#[]⟩,.slice none 0 0,.slice none 0 0,.slice none 0 0,.slice none 0 0,.slice none 0 0,.slice none 0 0] 64)=x:=⟨_,rfl⟩
       have ba:Below pY.heap.size pY Db:=by rw[←dT];exact (zE _ _).alloc (zD _) _
       have bo:Db.heap[pY.heap.size]?=some (.cells #[.string ⟨#[]⟩,.slice none 0 0,.slice none 0 0,.slice none 0 0,.slice none 0 0,.slice none 0 0,.slice none 0 0] 64 (0,0)):=by rw[←dT];exact aC _ _
       have dr:wo.heap.size≤pY.heap.size:=bL.size
       go_simp
       have eT:=ct eT ba
       have bL:=bL.trans (ba.mono bL.size)
       have aX:=aX.trans (ba.mono aX.size)
       refine hK _ _ ⟨fun _=>aX,?_⟩
       clear hK K dT ba
       refine ay 17 (by kernel_rfl) rfl (fun K hK=>?_)
       refine aN 38 rfl rfl 38 (fun vs=>by kernel_rfl) #[.tmp 37] #[22] rfl #[.slice ag gs.length cg] (by first|rfl|simp[Act.eval]) (aa HT Db aX) ?_
       rintro e' N5 ⟨⟨u2,l2,rfl,dQ,j8,mT⟩,ba⟩
       have eT:=ct eT ba
       have dQ:=eh dQ (show wo.heap.size≤_ from bL.size)
       rw[←j8] at dQ
       obtain ⟨DD,DC,rfl⟩:=bj dQ
       have qT:=aj (And.intro j8 mT)
       clear j8 mT
       have bo:=(ba.block _ (zA bo).1).trans bo
       have bL:=bL.trans (ba.mono bL.size)
       have aX:=aX.trans (ba.mono aX.size)
       refine ⟨_,rfl,hK _ _ ⟨fun _=>aX,?_⟩⟩
       clear hK K ba
       simp only[Act.put,zL,zM,zN]
       have hT:=aX
       refine aq 18 ((.agg #[.string y,.slice none 0 0,.slice none 0 0,.slice none 0 0,.slice none 0 0,.slice GF l1.length GD,.slice DD l2.length DC])) 39 rfl rfl (Or.inl ⟨by rfl,fun w' hw=>by go_simp⟩) hT ?_
       simp only[Act.put,zL,zM,zN]
       clear hT
       refine ay 20 (by kernel_rfl) rfl (fun K hK=>?_)
       obtain ⟨b,rT⟩:∃b,pY.heap.size=b:=⟨_,rfl⟩
       rw[rT] at bo dr ⊢
       obtain ⟨c0,c1,c2,c3,c4,c5,c6⟩:=kA bo
       have z:∀j,N5.frozen? ⟨b,j,none⟩=false:=fun j=>by simp[World.frozen?,bo]
       have z0:=z 0
       have z1:=z 1
       have z2:=z 2
       have z3:=z 3
       have z4:=z 4
       have z5:=z 5
       have z6:=z 6
       have hC:=tL.new (nm:=y) bL dr bo eT dQ
       go_simp
       refine hK _ _ ⟨fun _=>(aa kp).trans (hC.ez.mono (aa kp).size),?_⟩
       clear hK K
       refine bn (by kernel_rfl) ?_
       have HC:=aj hC
       clear hC bL aX dr bo z z0 z1 z2 z3 z4 z5 z6 c0 c1 c2 c3 c4 c5 c6 eT dQ
       go_wp2_with fail
       go_meet
       exact ⟨b,y,l1,l2,_,_,rfl,HC,E2,AW,qT⟩
     ·obtain ⟨JD,dT⟩:∃x,oJ.alloc (.cells #[.string ⟨#[]⟩,.slice none 0 0,.slice none 0 0,.slice none 0 0,.slice none 0 0,.slice none 0 0,.slice none 0 0] 64)=x:=⟨_,rfl⟩
      have ba:Below oJ.heap.size oJ JD:=by rw[←dT];exact (zE _ _).alloc (zD _) _
      have bo:JD.heap[oJ.heap.size]?=some (.cells #[.string ⟨#[]⟩,.slice none 0 0,.slice none 0 0,.slice none 0 0,.slice none 0 0,.slice none 0 0,.slice none 0 0] 64 (0,0)):=by rw[←dT];exact aC _ _
      have dr:wo.heap.size≤oJ.heap.size:=bL.size
      go_simp
      have bL:=bL.trans (ba.mono bL.size)
      have aX:=aX.trans (ba.mono aX.size)
      refine hK _ _ ⟨fun _=>aX,?_⟩
      clear hK K dT ba
      refine ay 11 (by kernel_rfl) rfl (fun K hK=>?_)
      refine aN 32 rfl rfl 37 (fun vs=>by kernel_rfl) #[.tmp 31,.const (.int .i64 1),.const (.int .i64 536870911)] #[62,3,3] rfl #[.slice ar rs.length cr,.int .i64 1,.int .i64 536870911] (by first|rfl|simp[Act.eval]) (aa HR JD aX) ?_
      rintro e' N4 ⟨⟨u1,l1,rfl,eT,ep,vY⟩,ba⟩
      have eT:=eh eT (show wo.heap.size≤_ from bL.size)
      rw[←ep] at eT
      obtain ⟨GF,GD,rfl⟩:=bj eT
      have AW:=aj (And.intro ep vY)
      clear ep vY
      have bo:=(ba.block _ (zA bo).1).trans bo
      have bL:=bL.trans (ba.mono bL.size)
      have aX:=aX.trans (ba.mono aX.size)
      refine ⟨_,rfl,hK _ _ ⟨fun _=>aX,?_⟩⟩
      clear hK K ba
      simp only[Act.put,zL,zM,zN]
      refine ay 17 (by kernel_rfl) rfl (fun K hK=>?_)
      refine aN 38 rfl rfl 38 (fun vs=>by kernel_rfl) #[.tmp 37] #[22] rfl #[.slice ag gs.length cg] (by first|rfl|simp[Act.eval]) (aa HT N4 aX) ?_
      rintro e' Ri ⟨⟨u2,l2,rfl,dQ,j8,mT⟩,ba⟩
      have eT:=ct eT ba
      have dQ:=eh dQ (show wo.heap.size≤_ from bL.size)
      rw[←j8] at dQ
      obtain ⟨DD,DC,rfl⟩:=bj dQ
      have qT:=aj (And.intro j8 mT)
      clear j8 mT
      have bo:=(ba.block _ (zA bo).1).trans bo
      have bL:=bL.trans (ba.mono bL.size)
      have aX:=aX.trans (ba.mono aX.size)
      refine ⟨_,rfl,hK _ _ ⟨fun _=>aX,?_⟩⟩
      clear hK K ba
      simp only[Act.put,zL,zM,zN]
      have hT:=aX
      refine aq 18 ((.agg #[.string y,.slice none 0 0,.slice none 0 0,.slice none 0 0,.slice none 0 0,.slice GF l1.length GD,.slice DD l2.length DC])) 39 rfl rfl (Or.inl ⟨by rfl,fun w' hw=>by go_simp⟩) hT ?_
      simp only[Act.put,zL,zM,zN]
      clear hT
      refine ay 20 (by kernel_rfl) rfl (fun K hK=>?_)
      obtain ⟨b,rT⟩:∃b,oJ.heap.size=b:=⟨_,rfl⟩
      rw[rT] at bo dr ⊢
      obtain ⟨c0,c1,c2,c3,c4,c5,c6⟩:=kA bo
      have z:∀j,Ri.frozen? ⟨b,j,none⟩=false:=fun j=>by simp[World.frozen?,bo]
      have z0:=z 0
      have z1:=z 1
      have z2:=z 2
      have z3:=z 3
      have z4:=z 4
      have z5:=z 5
      have z6:=z 6
      have hC:=tL.new (nm:=y) bL dr bo eT dQ
      go_simp
      refine hK _ _ ⟨fun _=>(aa kp).trans (hC.ez.mono (aa kp).size),?_⟩
      clear hK K
      refine bn (by kernel_rfl) ?_
      have HC:=aj hC
      clear hC bL aX dr bo z z0 z1 z2 z3 z4 z5 z6 c0 c1 c2 c3 c4 c5 c6 eT dQ
      go_wp2_with fail
      go_meet
      exact ⟨b,y,l1,l2,_,_,rfl,HC,E2,AW,qT⟩
    ·obtain ⟨zi,dT⟩:∃x,wd.alloc (.cells #[.string ⟨#[]⟩,.slice none 0 0,.slice none 0 0,.slice none 0 0,.slice none 0 0,.slice none 0 0,.slice none 0 0] 64)=x:=⟨_,rfl⟩
     have ba:Below wd.heap.size wd zi:=by rw[←dT];exact (zE _ _).alloc (zD _) _
     have bo:zi.heap[wd.heap.size]?=some (.cells #[.string ⟨#[]⟩,.slice none 0 0,.slice none 0 0,.slice none 0 0,.slice none 0 0,.slice none 0 0,.slice none 0 0] 64 (0,0)):=by rw[←dT];exact aC _ _
     have dr:wo.heap.size≤wd.heap.size:=bL.size
     go_simp
     have bL:=bL.trans (ba.mono bL.size)
     have aX:=aX.trans (ba.mono aX.size)
     refine hK _ _ ⟨fun _=>aX,?_⟩
     clear hK K dT ba
     refine ay 5 (by kernel_rfl) rfl (fun K hK=>?_)
     refine aN 26 rfl rfl 22 (fun vs=>by kernel_rfl) #[.tmp 25] #[9] rfl #[.string nm] (by first|rfl|simp[Act.eval]) (fM zi nm (aa Nd)) ?_
     rintro e' Gy ⟨⟨y,hy,rfl⟩,ba⟩
     have E2:=aj hy
     clear hy
     have bo:=(ba.block _ (zA bo).1).trans bo
     have bL:=bL.trans (ba.mono bL.size)
     have aX:=aX.trans (ba.mono aX.size)
     refine ⟨_,rfl,hK _ _ ⟨fun _=>aX,?_⟩⟩
     clear hK K ba
     simp only[Act.put,zL,zM,zN]
     refine ay 11 (by kernel_rfl) rfl (fun K hK=>?_)
     refine aN 32 rfl rfl 37 (fun vs=>by kernel_rfl) #[.tmp 31,.const (.int .i64 1),.const (.int .i64 536870911)] #[62,3,3] rfl #[.slice ar rs.length cr,.int .i64 1,.int .i64 536870911] (by first|rfl|simp[Act.eval]) (aa HR Gy aX) ?_
     rintro e' JF ⟨⟨u1,l1,rfl,eT,ep,vY⟩,ba⟩
     have eT:=eh eT (show wo.heap.size≤_ from bL.size)
     rw[←ep] at eT
     obtain ⟨GF,GD,rfl⟩:=bj eT
     have AW:=aj (And.intro ep vY)
     clear ep vY
     have bo:=(ba.block _ (zA bo).1).trans bo
     have bL:=bL.trans (ba.mono bL.size)
     have aX:=aX.trans (ba.mono aX.size)
     refine ⟨_,rfl,hK _ _ ⟨fun _=>aX,?_⟩⟩
     clear hK K ba
     simp only[Act.put,zL,zM,zN]
     refine ay 17 (by kernel_rfl) rfl (fun K hK=>?_)
     refine aN 38 rfl rfl 38 (fun vs=>by kernel_rfl) #[.tmp 37] #[22] rfl #[.slice ag gs.length cg] (by first|rfl|simp[Act.eval]) (aa HT JF aX) ?_
     rintro e' JE ⟨⟨u2,l2,rfl,dQ,j8,mT⟩,ba⟩
     have eT:=ct eT ba
     have dQ:=eh dQ (show wo.heap.size≤_ from bL.size)
     rw[←j8] at dQ
     obtain ⟨DD,DC,rfl⟩:=bj dQ
     have qT:=aj (And.intro j8 mT)
     clear j8 mT
     have bo:=(ba.block _ (zA bo).1).trans bo
     have bL:=bL.trans (ba.mono bL.size)
     have aX:=aX.trans (ba.mono aX.size)
     refine ⟨_,rfl,hK _ _ ⟨fun _=>aX,?_⟩⟩
     clear hK K ba
     simp only[Act.put,zL,zM,zN]
     have hT:=aX
     refine aq 18 ((.agg #[.string y,.slice none 0 0,.slice none 0 0,.slice none 0 0,.slice none 0 0,.slice GF l1.length GD,.slice DD l2.length DC])) 39 rfl rfl (Or.inl ⟨by rfl,fun w' hw=>by go_simp⟩) hT ?_
     simp only[Act.put,zL,zM,zN]
     clear hT
     refine ay 20 (by kernel_rfl) rfl (fun K hK=>?_)
     obtain ⟨b,rT⟩:∃b,wd.heap.size=b:=⟨_,rfl⟩
     rw[rT] at bo dr ⊢
     obtain ⟨c0,c1,c2,c3,c4,c5,c6⟩:=kA bo
     have z:∀j,JE.frozen? ⟨b,j,none⟩=false:=fun j=>by simp[World.frozen?,bo]
     have z0:=z 0
     have z1:=z 1
     have z2:=z 2
     have z3:=z 3
     have z4:=z 4
     have z5:=z 5
     have z6:=z 6
     have hC:=tL.new (nm:=y) bL dr bo eT dQ
     go_simp
     refine hK _ _ ⟨fun _=>(aa kp).trans (hC.ez.mono (aa kp).size),?_⟩
     clear hK K
     refine bn (by kernel_rfl) ?_
     have HC:=aj hC
     clear hC bL aX dr bo z z0 z1 z2 z3 z4 z5 z6 c0 c1 c2 c3 c4 c5 c6 eT dQ
     go_wp2_with fail
     go_meet
     exact ⟨b,y,l1,l2,_,_,rfl,HC,E2,AW,qT⟩
   case rest =>
    obtain ⟨b,y,l1,l2,ur,ug,rfl,HC,E2,AW,qT⟩:=hcut
    obtain ⟨JO,JM,rfl⟩:=bj (aa HC).r
    obtain ⟨JP,JN,rfl⟩:=bj (aa HC).g
    obtain ⟨x0,x1,x2,x3,x4,x5,x6⟩:=aa iu wc ((aa kp).trans ((aa HC).ez.mono (aa kp).size))
    go_upto_region 7 with fail
    clear x0 x1 x2 x3 x4 x5 x6
    go_loopg [8,9,10] fs.length (fun gk v8 _ _ wi=>∃(k:Nat) (uf uo:Value) (qc:List Fd) (qs:List ByteArray),v8=.int .i64 (k:Int)∧gk=fs.length-k∧k≤fs.length∧Hid (tL wo wi b uf uo (.slice JO l1.length JM) (.slice JP l2.length JN) y qc qs l1 l2)∧Hid (qc.length=k∧qs.length≤k∧(∀d ∈ qc,YK d)∧(∀x ∈ qs,aU x)∧mr qs qc))
    case atStart=>exact ⟨0,_,_,[],[],rfl,rfl,by omega,HC,⟨rfl,zD _,fun d hd=>by (cases hd),fun d hd=>by (cases hd),H8⟩⟩
    case round =>
     obtain ⟨k,uf,uo,qc,qs,rfl,j9,gO,ny,xj⟩:=hrel
     have nH:=aj j9
     clear j9 HC
     obtain ⟨Vp,Vo,rfl⟩:=bj (aa ny).f
     obtain ⟨Nt,Ns,rfl⟩:=bj (aa ny).o
     have xl:=aj (show Below W.heap.size W wr from (aa kp).trans ((aa ny).ez.mono (aa kp).size))
     obtain ⟨x0,x1,x2,x3,x4,x5,x6⟩:=aa iu wr (aa xl)
     by_cases eU:k<fs.length
     ·obtain ⟨gv,ov,rfl,UG,Eg⟩:=aa X' (by omega)
      obtain ⟨d,mT⟩:∃d,fs[k]?=some d:=⟨_,List.getElem?_eq_getElem eU⟩
      have X6:Hid (∀w',Below W.heap.size W w'→w'.cell? ⟨gv,ov+k*6,none⟩=some (.int .i64 d.dF)∧w'.cell? ⟨gv,ov+k*6+1,none⟩=some (.string d.key)∧w'.cell? ⟨gv,ov+k*6+2,none⟩=some (.string d.ty)∧w'.cell? ⟨gv,ov+k*6+3,none⟩=some (.string d.name)∧w'.cell? ⟨gv,ov+k*6+4,none⟩=some (.int .i64 d.num)∧w'.cell? ⟨gv,ov+k*6+5,none⟩=some (.int .i64 d.oneof)):=by
       intro w' hb
       have key:∀(j:Nat) (x:Value),d.arr[j]?=some x→w'.cell? ⟨gv,ov+(k*6+j),none⟩=some x:=fun j x hx=>(hb.cell (p:=⟨gv,ov+(k*6+j),none⟩) UG).trans (Eg _ _ (pG fs k d mT j x hx))
       exact ⟨key 0 _ rfl,key 1 _ rfl,key 2 _ rfl,key 3 _ rfl,key 4 _ rfl,key 5 _ rfl⟩
      have C8:=aj ((aa HS).fs d (List.mem_of_getElem? mT))
      obtain ⟨y0,y1,y2,y3,y4,y5⟩:=aa X6 wr (aa xl)
      have k0':(0:Int)≤(k:Int):=zH _
      have k1':(k:Int)<(fs.length:Int):=by omega
      have gN:=aj eU
      have ba:Below wr.heap.size wr (wr.alloc (.cells d.arr 70)):=(zE _ _).alloc (zD _) _
      have LI:(wr.alloc (.cells d.arr 70)).heap[wr.heap.size]?=some (.cells d.arr 70 (0,0)):=aC _ _
      obtain ⟨W2,El⟩:∃W2,wr.alloc (.cells d.arr 70)=W2:=⟨_,rfl⟩
      rw[El] at ba LI
      unfold Fd.arr at El
      have xX:=aj ((aa ny).below ba)
      have E3:Hid (∀w',Below W2.heap.size W2 w'→w'.heap[wr.heap.size]?=some (.cells d.arr 70 (0,0))):=fun w' hb=>(hb.block _ (zA LI).1).trans LI
      have HBn:=aj ba
      clear eU mT Eg ba
      go_upto_region 10 with fail
      obtain ⟨vb,tW⟩:∃vb,wr.heap.size=vb:=⟨_,rfl⟩
      rw[tW] at E3 LI ⊢
      have U1:=aj LI
      clear tW LI El x0 x1 x2 x3 x4 x5 x6 y0 y1 y2 y3 y4 y5
      go_cut [10] (fun v10 wx=>∃(p:Nat) (x:Fd),v10=.pointer (some ⟨p,0,none⟩)∧Hid (FT wo wx b p vb (.slice Vp qc.length Vo) (.slice Nt qs.length Ns) (.slice JO l1.length JM) (.slice JP l2.length JN) y qc qs l1 l2 d x)∧Hid (Qh x))
      case first =>
       refine wp_region_any (by kernel_rfl) (ck (z:=14) (T:=fun w'=>Below W2.heap.size W2 w') _ _ _ _ ?_)
       try (change cL _ _ _ _ _ _ _ _ _ (World.drew _))
       have Jh:=aj ((aa kp).trans ((aa xX).ez.mono (aa kp).size))
       have aX:Below W2.heap.size W2 W2.drew:=below_drewN (zE W2.heap.size W2) 1
       have bL:Below wo.heap.size wo W2.drew:=below_drewN (aa xX).ez 1
       obtain ⟨wd,jb⟩:∃x,W2.drew=x:=⟨_,rfl⟩
       rw[jb] at aX bL ⊢
       clear jb
       have hT:=aX
       refine aq 0 (.pointer (some ⟨vb,0,none⟩)) 58 rfl rfl (Or.inl ⟨by rfl,fun w' hw=>by obtain ⟨y0,y1,y2,y3,y4,y5⟩:=bY (aa E3 w' hw);go_simp⟩) hT ?_
       simp only[Act.put,zL,zM,zN]
       refine aq 1 (.int .i64 d.dF) 59 rfl rfl (Or.inl ⟨by rfl,fun w' hw=>by obtain ⟨y0,y1,y2,y3,y4,y5⟩:=bY (aa E3 w' hw);go_simp⟩) hT ?_
       simp only[Act.put,zL,zM,zN]
       refine aq 3 (.pointer (some ⟨vb,2,none⟩)) 61 rfl rfl (Or.inl ⟨by rfl,fun w' hw=>by obtain ⟨y0,y1,y2,y3,y4,y5⟩:=bY (aa E3 w' hw);go_simp⟩) hT ?_
       simp only[Act.put,zL,zM,zN]
       refine aq 4 (.string d.ty) 62 rfl rfl (Or.inl ⟨by rfl,fun w' hw=>by obtain ⟨y0,y1,y2,y3,y4,y5⟩:=bY (aa E3 w' hw);go_simp⟩) hT ?_
       simp only[Act.put,zL,zM,zN]
       refine aq 6 (.pointer (some ⟨vb,3,none⟩)) 64 rfl rfl (Or.inl ⟨by rfl,fun w' hw=>by obtain ⟨y0,y1,y2,y3,y4,y5⟩:=bY (aa E3 w' hw);go_simp⟩) hT ?_
       simp only[Act.put,zL,zM,zN]
       refine aq 7 (.string d.name) 65 rfl rfl (Or.inl ⟨by rfl,fun w' hw=>by obtain ⟨y0,y1,y2,y3,y4,y5⟩:=bY (aa E3 w' hw);go_simp⟩) hT ?_
       simp only[Act.put,zL,zM,zN]
       refine aq 9 (.pointer (some ⟨vb,4,none⟩)) 67 rfl rfl (Or.inl ⟨by rfl,fun w' hw=>by obtain ⟨y0,y1,y2,y3,y4,y5⟩:=bY (aa E3 w' hw);go_simp⟩) hT ?_
       simp only[Act.put,zL,zM,zN]
       refine aq 10 (.int .i64 d.num) 68 rfl rfl (Or.inl ⟨by rfl,fun w' hw=>by obtain ⟨y0,y1,y2,y3,y4,y5⟩:=bY (aa E3 w' hw);go_simp⟩) hT ?_
       simp only[Act.put,zL,zM,zN]
       clear hT
       refine dj 2 13 (by kernel_rfl) rfl rfl (fun K hK=>?_) (fun K hK=>?_)
       ·refine aN 60 rfl rfl 11 (fun vs=>by kernel_rfl) #[.tmp 59,.const (.int .i64 1),.const (.int .i64 4)] #[3,3,3] rfl #[.int .i64 d.dF,.int .i64 1,.int .i64 4] (by first|rfl|simp[Act.eval]) (dZ wd (aa C8).dF (by decide) (by decide) (by decide)) ?_
        rintro e' oJ ⟨⟨q0,Wm,rfl⟩,nF⟩
        have U5:=aj Wm
        clear Wm
        have ba:=kf nF
        clear nF
        have bL:=bL.trans (ba.mono bL.size)
        have aX:=aX.trans (ba.mono aX.size)
        refine ⟨_,rfl,hK _ _ ⟨fun _=>aX,?_⟩⟩
        clear hK K ba
        simp only[Act.put,zL,zM,zN]
        refine dj 5 13 (by kernel_rfl) rfl rfl (fun K hK=>?_) (fun K hK=>?_)
        ·refine aN 63 rfl rfl 19 (fun vs=>by kernel_rfl) #[.tmp 62] #[9] rfl #[.string d.ty] (by first|rfl|simp[Act.eval]) (mS (gD.up (aa HM) ((aa Jh).trans (aX.mono (aa Jh).size)) (aa HM).1) d.ty (aa C8).ty) ?_
         rintro e' pY ⟨⟨ps,kj,rfl⟩,ba⟩
         have NV:=aj kj
         clear kj
         have bL:=bL.trans (ba.mono bL.size)
         have aX:=aX.trans (ba.mono aX.size)
         refine ⟨_,rfl,hK _ _ ⟨fun _=>aX,?_⟩⟩
         clear hK K ba
         simp only[Act.put,zL,zM,zN]
         refine dj 8 13 (by kernel_rfl) rfl rfl (fun K hK=>?_) (fun K hK=>?_)
         ·refine aN 66 rfl rfl 22 (fun vs=>by kernel_rfl) #[.tmp 65] #[9] rfl #[.string d.name] (by first|rfl|simp[Act.eval]) (fM pY d.name (by have:=(aa C8).name;omega)) ?_
          rintro e' pX ⟨⟨xn,Le,rfl⟩,ba⟩
          have Q5:=aj Le
          clear Le
          have bL:=bL.trans (ba.mono bL.size)
          have aX:=aX.trans (ba.mono aX.size)
          refine ⟨_,rfl,hK _ _ ⟨fun _=>aX,?_⟩⟩
          clear hK K ba
          simp only[Act.put,zL,zM,zN]
          refine dj 11 13 (by kernel_rfl) rfl rfl (fun K hK=>?_) (fun K hK=>?_)
          ·refine aN 69 rfl rfl 11 (fun vs=>by kernel_rfl) #[.tmp 68,.const (.int .i64 0),.const (.int .i64 2147483647)] #[3,3,3] rfl #[.int .i64 d.num,.int .i64 0,.int .i64 2147483647] (by first|rfl|simp[Act.eval]) (dZ pX (aa C8).num (by decide) (by decide) (by decide)) ?_
           rintro e' zh ⟨⟨q4,FP,rfl⟩,nF⟩
           have Nb:=aj FP
           clear FP
           have ba:=kf nF
           clear nF
           have bL:=bL.trans (ba.mono bL.size)
           have aX:=aX.trans (ba.mono aX.size)
           refine ⟨_,rfl,hK _ _ ⟨fun _=>aX,?_⟩⟩
           clear hK K ba
           simp only[Act.put,zL,zM,zN]
           have hT:=aX
           refine aq 12 ((.agg #[.int .i64 q0,.string ⟨#[]⟩,.string (gQ ps),.string xn,.int .i64 q4,.int .i64 0])) 70 rfl rfl (Or.inl ⟨by rfl,fun w' hw=>by go_simp⟩) hT ?_
           simp only[Act.put,zL,zM,zN]
           clear hT
           refine ay 13 (by kernel_rfl) rfl (fun K hK=>?_)
           have lV:=aX.size
           obtain ⟨Db,dT⟩:∃x,zh.alloc (.cells #[.int .i64 0,.string ⟨#[]⟩,.string ⟨#[]⟩,.string ⟨#[]⟩,.int .i64 0,.int .i64 0] 70)=x:=⟨_,rfl⟩
           have ba:Below zh.heap.size zh Db:=by rw[←dT];exact (zE _ _).alloc (zD _) _
           have bo:Db.heap[zh.heap.size]?=some (.cells #[.int .i64 0,.string ⟨#[]⟩,.string ⟨#[]⟩,.string ⟨#[]⟩,.int .i64 0,.int .i64 0] 70 (0,0)):=by rw[←dT];exact aC _ _
           have dr:wo.heap.size≤zh.heap.size:=bL.size
           go_simp
           have bL:=bL.trans (ba.mono bL.size)
           have aX:=aX.trans (ba.mono aX.size)
           refine hK _ _ ⟨fun _=>aX,?_⟩
           clear hK K dT ba
           refine ay 14 (by kernel_rfl) rfl (fun K hK=>?_)
           obtain ⟨p,rT⟩:∃p,zh.heap.size=p:=⟨_,rfl⟩
           rw[rT] at bo dr lV ⊢
           obtain ⟨c0,c1,c2,c3,c4,c5⟩:=wG bo
           have z:∀j,Db.frozen? ⟨p,j,none⟩=false:=fun j=>by simp[World.frozen?,bo]
           have z0:=z 0
           have z1:=z 1
           have z2:=z 2
           have z3:=z 3
           have z4:=z 4
           have z5:=z 5
           have hF:=FT.new (x:=⟨q0,⟨#[]⟩,gQ ps,xn,q4,0⟩) (aa xX) aX lV bo (aa U1)
           have hX:Qh ⟨q0,⟨#[]⟩,gQ ps,xn,q4,0⟩:=pI (aa U5) (aa NV) (aa Q5) (aa Nb)
           go_simp
           refine hK _ _ ⟨fun h=>absurd rfl h,?_⟩
           clear hK K
           refine bn (by kernel_rfl) ?_
           have HF:=aj hF
           have HX:=aj hX
           clear hF hX bL aX dr lV bo z z0 z1 z2 z3 z4 z5 c0 c1 c2 c3 c4 c5
           go_wp2_with fail
           go_meet
           exact ⟨p,_,rfl,HF,HX⟩
          ·have lV:=aX.size
           obtain ⟨N5,dT⟩:∃x,pX.alloc (.cells #[.int .i64 0,.string ⟨#[]⟩,.string ⟨#[]⟩,.string ⟨#[]⟩,.int .i64 0,.int .i64 0] 70)=x:=⟨_,rfl⟩
           have ba:Below pX.heap.size pX N5:=by rw[←dT];exact (zE _ _).alloc (zD _) _
           have bo:N5.heap[pX.heap.size]?=some (.cells #[.int .i64 0,.string ⟨#[]⟩,.string ⟨#[]⟩,.string ⟨#[]⟩,.int .i64 0,.int .i64 0] 70 (0,0)):=by rw[←dT];exact aC _ _
           have dr:wo.heap.size≤pX.heap.size:=bL.size
           go_simp
           have bL:=bL.trans (ba.mono bL.size)
           have aX:=aX.trans (ba.mono aX.size)
           refine hK _ _ ⟨fun _=>aX,?_⟩
           clear hK K dT ba
           refine ay 11 (by kernel_rfl) rfl (fun K hK=>?_)
           refine aN 69 rfl rfl 11 (fun vs=>by kernel_rfl) #[.tmp 68,.const (.int .i64 0),.const (.int .i64 2147483647)] #[3,3,3] rfl #[.int .i64 d.num,.int .i64 0,.int .i64 2147483647] (by first|rfl|simp[Act.eval]) (dZ N5 (aa C8).num (by decide) (by decide) (by decide)) ?_
           rintro e' JD ⟨⟨q4,FP,rfl⟩,nF⟩
           have Nb:=aj FP
           clear FP
           have ba:=kf nF
           clear nF
           have bo:=(ba.block _ (zA bo).1).trans bo
           have bL:=bL.trans (ba.mono bL.size)
           have aX:=aX.trans (ba.mono aX.size)
           refine ⟨_,rfl,hK _ _ ⟨fun _=>aX,?_⟩⟩
           clear hK K ba
           simp only[Act.put,zL,zM,zN]
           have hT:=aX
           refine aq 12 ((.agg #[.int .i64 q0,.string ⟨#[]⟩,.string (gQ ps),.string xn,.int .i64 q4,.int .i64 0])) 70 rfl rfl (Or.inl ⟨by rfl,fun w' hw=>by go_simp⟩) hT ?_
           simp only[Act.put,zL,zM,zN]
           clear hT
           refine ay 14 (by kernel_rfl) rfl (fun K hK=>?_)
           obtain ⟨p,rT⟩:∃p,pX.heap.size=p:=⟨_,rfl⟩
           rw[rT] at bo dr lV ⊢
           obtain ⟨c0,c1,c2,c3,c4,c5⟩:=wG bo
           have z:∀j,JD.frozen? ⟨p,j,none⟩=false:=fun j=>by simp[World.frozen?,bo]
           have z0:=z 0
           have z1:=z 1
           have z2:=z 2
           have z3:=z 3
           have z4:=z 4
           have z5:=z 5
           have hF:=FT.new (x:=⟨q0,⟨#[]⟩,gQ ps,xn,q4,0⟩) (aa xX) aX lV bo (aa U1)
           have hX:Qh ⟨q0,⟨#[]⟩,gQ ps,xn,q4,0⟩:=pI (aa U5) (aa NV) (aa Q5) (aa Nb)
           go_simp
           refine hK _ _ ⟨fun h=>absurd rfl h,?_⟩
           clear hK K
           refine bn (by kernel_rfl) ?_
           have HF:=aj hF
           have HX:=aj hX
           clear hF hX bL aX dr lV bo z z0 z1 z2 z3 z4 z5 c0 c1 c2 c3 c4 c5
           go_wp2_with fail
           go_meet
           exact ⟨p,_,rfl,HF,HX⟩
         ·have lV:=aX.size
          obtain ⟨N4,dT⟩:∃x,pY.alloc (.cells #[.int .i64 0,.string ⟨#[]⟩,.string ⟨#[]⟩,.string ⟨#[]⟩,.int .i64 0,.int .i64 0] 70)=x:=⟨_,rfl⟩
          have ba:Below pY.heap.size pY N4:=by rw[←dT];exact (zE _ _).alloc (zD _) _
          have bo:N4.heap[pY.heap.size]?=some (.cells #[.int .i64 0,.string ⟨#[]⟩,.string ⟨#[]⟩,.string ⟨#[]⟩,.int .i64 0,.int .i64 0] 70 (0,0)):=by rw[←dT];exact aC _ _
          have dr:wo.heap.size≤pY.heap.size:=bL.size
          go_simp
          have bL:=bL.trans (ba.mono bL.size)
          have aX:=aX.trans (ba.mono aX.size)
          refine hK _ _ ⟨fun _=>aX,?_⟩
          clear hK K dT ba
          refine ay 8 (by kernel_rfl) rfl (fun K hK=>?_)
          refine aN 66 rfl rfl 22 (fun vs=>by kernel_rfl) #[.tmp 65] #[9] rfl #[.string d.name] (by first|rfl|simp[Act.eval]) (fM N4 d.name (by have:=(aa C8).name;omega)) ?_
          rintro e' Ri ⟨⟨xn,Le,rfl⟩,ba⟩
          have Q5:=aj Le
          clear Le
          have bo:=(ba.block _ (zA bo).1).trans bo
          have bL:=bL.trans (ba.mono bL.size)
          have aX:=aX.trans (ba.mono aX.size)
          refine ⟨_,rfl,hK _ _ ⟨fun _=>aX,?_⟩⟩
          clear hK K ba
          simp only[Act.put,zL,zM,zN]
          refine ay 11 (by kernel_rfl) rfl (fun K hK=>?_)
          refine aN 69 rfl rfl 11 (fun vs=>by kernel_rfl) #[.tmp 68,.const (.int .i64 0),.const (.int .i64 2147483647)] #[3,3,3] rfl #[.int .i64 d.num,.int .i64 0,.int .i64 2147483647] (by first|rfl|simp[Act.eval]) (dZ Ri (aa C8).num (by decide) (by decide) (by decide)) ?_
          rintro e' zi ⟨⟨q4,FP,rfl⟩,nF⟩
          have Nb:=aj FP
          clear FP
          have ba:=kf nF
          clear nF
          have bo:=(ba.block _ (zA bo).1).trans bo
          have bL:=bL.trans (ba.mono bL.size)
          have aX:=aX.trans (ba.mono aX.size)
          refine ⟨_,rfl,hK _ _ ⟨fun _=>aX,?_⟩⟩
          clear hK K ba
          simp only[Act.put,zL,zM,zN]
          have hT:=aX
          refine aq 12 ((.agg #[.int .i64 q0,.string ⟨#[]⟩,.string (gQ ps),.string xn,.int .i64 q4,.int .i64 0])) 70 rfl rfl (Or.inl ⟨by rfl,fun w' hw=>by go_simp⟩) hT ?_
          simp only[Act.put,zL,zM,zN]
          clear hT
          refine ay 14 (by kernel_rfl) rfl (fun K hK=>?_)
          obtain ⟨p,rT⟩:∃p,pY.heap.size=p:=⟨_,rfl⟩
          rw[rT] at bo dr lV ⊢
          obtain ⟨c0,c1,c2,c3,c4,c5⟩:=wG bo
          have z:∀j,zi.frozen? ⟨p,j,none⟩=false:=fun j=>by simp[World.frozen?,bo]
          have z0:=z 0
          have z1:=z 1
          have z2:=z 2
          have z3:=z 3
          have z4:=z 4
          have z5:=z 5
          have hF:=FT.new (x:=⟨q0,⟨#[]⟩,gQ ps,xn,q4,0⟩) (aa xX) aX lV bo (aa U1)
          have hX:Qh ⟨q0,⟨#[]⟩,gQ ps,xn,q4,0⟩:=pI (aa U5) (aa NV) (aa Q5) (aa Nb)
          go_simp
          refine hK _ _ ⟨fun h=>absurd rfl h,?_⟩
          clear hK K
          refine bn (by kernel_rfl) ?_
          have HF:=aj hF
          have HX:=aj hX
          clear hF hX bL aX dr lV bo z z0 z1 z2 z3 z4 z5 c0 c1 c2 c3 c4 c5
          go_wp2_with fail
          go_meet
          exact ⟨p,_,rfl,HF,HX⟩
        ·have lV:=aX.size
         obtain ⟨Gy,dT⟩:∃x,oJ.alloc (.cells #[.int .i64 0,.string ⟨#[]⟩,.string ⟨#[]⟩,.string ⟨#[]⟩,.int .i64 0,.int .i64 0] 70)=x:=⟨_,rfl⟩
         have ba:Below oJ.heap.size oJ Gy:=by rw[←dT];exact (zE _ _).alloc (zD _) _
         have bo:Gy.heap[oJ.heap.size]?=some (.cells #[.int .i64 0,.string ⟨#[]⟩,.string ⟨#[]⟩,.string ⟨#[]⟩,.int .i64 0,.int .i64 0] 70 (0,0)):=by rw[←dT];exact aC _ _
         have dr:wo.heap.size≤oJ.heap.size:=bL.size
         go_simp
         have bL:=bL.trans (ba.mono bL.size)
         have aX:=aX.trans (ba.mono aX.size)
         refine hK _ _ ⟨fun _=>aX,?_⟩
         clear hK K dT ba
         refine ay 5 (by kernel_rfl) rfl (fun K hK=>?_)
         refine aN 63 rfl rfl 19 (fun vs=>by kernel_rfl) #[.tmp 62] #[9] rfl #[.string d.ty] (by first|rfl|simp[Act.eval]) (mS (gD.up (aa HM) ((aa Jh).trans (aX.mono (aa Jh).size)) (aa HM).1) d.ty (aa C8).ty) ?_
         rintro e' JF ⟨⟨ps,kj,rfl⟩,ba⟩
         have NV:=aj kj
         clear kj
         have bo:=(ba.block _ (zA bo).1).trans bo
         have bL:=bL.trans (ba.mono bL.size)
         have aX:=aX.trans (ba.mono aX.size)
         refine ⟨_,rfl,hK _ _ ⟨fun _=>aX,?_⟩⟩
         clear hK K ba
         simp only[Act.put,zL,zM,zN]
         refine ay 8 (by kernel_rfl) rfl (fun K hK=>?_)
         refine aN 66 rfl rfl 22 (fun vs=>by kernel_rfl) #[.tmp 65] #[9] rfl #[.string d.name] (by first|rfl|simp[Act.eval]) (fM JF d.name (by have:=(aa C8).name;omega)) ?_
         rintro e' JE ⟨⟨xn,Le,rfl⟩,ba⟩
         have Q5:=aj Le
         clear Le
         have bo:=(ba.block _ (zA bo).1).trans bo
         have bL:=bL.trans (ba.mono bL.size)
         have aX:=aX.trans (ba.mono aX.size)
         refine ⟨_,rfl,hK _ _ ⟨fun _=>aX,?_⟩⟩
         clear hK K ba
         simp only[Act.put,zL,zM,zN]
         refine ay 11 (by kernel_rfl) rfl (fun K hK=>?_)
         refine aN 69 rfl rfl 11 (fun vs=>by kernel_rfl) #[.tmp 68,.const (.int .i64 0),.const (.int .i64 2147483647)] #[3,3,3] rfl #[.int .i64 d.num,.int .i64 0,.int .i64 2147483647] (by first|rfl|simp[Act.eval]) (dZ JE (aa C8).num (by decide) (by decide) (by decide)) ?_
         rintro e' aad ⟨⟨q4,FP,rfl⟩,nF⟩
         have Nb:=aj FP
         clear FP
         have ba:=kf nF
         clear nF
         have bo:=(ba.block _ (zA bo).1).trans bo
         have bL:=bL.trans (ba.mono bL.size)
         have aX:=aX.trans (ba.mono aX.size)
         refine ⟨_,rfl,hK _ _ ⟨fun _=>aX,?_⟩⟩
         clear hK K ba
         simp only[Act.put,zL,zM,zN]
         have hT:=aX
         refine aq 12 ((.agg #[.int .i64 q0,.string ⟨#[]⟩,.string (gQ ps),.string xn,.int .i64 q4,.int .i64 0])) 70 rfl rfl (Or.inl ⟨by rfl,fun w' hw=>by go_simp⟩) hT ?_
         simp only[Act.put,zL,zM,zN]
         clear hT
         refine ay 14 (by kernel_rfl) rfl (fun K hK=>?_)
         obtain ⟨p,rT⟩:∃p,oJ.heap.size=p:=⟨_,rfl⟩
         rw[rT] at bo dr lV ⊢
         obtain ⟨c0,c1,c2,c3,c4,c5⟩:=wG bo
         have z:∀j,aad.frozen? ⟨p,j,none⟩=false:=fun j=>by simp[World.frozen?,bo]
         have z0:=z 0
         have z1:=z 1
         have z2:=z 2
         have z3:=z 3
         have z4:=z 4
         have z5:=z 5
         have hF:=FT.new (x:=⟨q0,⟨#[]⟩,gQ ps,xn,q4,0⟩) (aa xX) aX lV bo (aa U1)
         have hX:Qh ⟨q0,⟨#[]⟩,gQ ps,xn,q4,0⟩:=pI (aa U5) (aa NV) (aa Q5) (aa Nb)
         go_simp
         refine hK _ _ ⟨fun h=>absurd rfl h,?_⟩
         clear hK K
         refine bn (by kernel_rfl) ?_
         have HF:=aj hF
         have HX:=aj hX
         clear hF hX bL aX dr lV bo z z0 z1 z2 z3 z4 z5 c0 c1 c2 c3 c4 c5
         go_wp2_with fail
         go_meet
         exact ⟨p,_,rfl,HF,HX⟩
       ·have lV:=aX.size
        obtain ⟨Rj,dT⟩:∃x,wd.alloc (.cells #[.int .i64 0,.string ⟨#[]⟩,.string ⟨#[]⟩,.string ⟨#[]⟩,.int .i64 0,.int .i64 0] 70)=x:=⟨_,rfl⟩
        have ba:Below wd.heap.size wd Rj:=by rw[←dT];exact (zE _ _).alloc (zD _) _
        have bo:Rj.heap[wd.heap.size]?=some (.cells #[.int .i64 0,.string ⟨#[]⟩,.string ⟨#[]⟩,.string ⟨#[]⟩,.int .i64 0,.int .i64 0] 70 (0,0)):=by rw[←dT];exact aC _ _
        have dr:wo.heap.size≤wd.heap.size:=bL.size
        go_simp
        have bL:=bL.trans (ba.mono bL.size)
        have aX:=aX.trans (ba.mono aX.size)
        refine hK _ _ ⟨fun _=>aX,?_⟩
        clear hK K dT ba
        refine ay 2 (by kernel_rfl) rfl (fun K hK=>?_)
        refine aN 60 rfl rfl 11 (fun vs=>by kernel_rfl) #[.tmp 59,.const (.int .i64 1),.const (.int .i64 4)] #[3,3,3] rfl #[.int .i64 d.dF,.int .i64 1,.int .i64 4] (by first|rfl|simp[Act.eval]) (dZ Rj (aa C8).dF (by decide) (by decide) (by decide)) ?_
        rintro e' abp ⟨⟨q0,Wm,rfl⟩,nF⟩
        have U5:=aj Wm
        clear Wm
        have ba:=kf nF
        clear nF
        have bo:=(ba.block _ (zA bo).1).trans bo
        have bL:=bL.trans (ba.mono bL.size)
        have aX:=aX.trans (ba.mono aX.size)
        refine ⟨_,rfl,hK _ _ ⟨fun _=>aX,?_⟩⟩
        clear hK K ba
        simp only[Act.put,zL,zM,zN]
        refine ay 5 (by kernel_rfl) rfl (fun K hK=>?_)
        refine aN 63 rfl rfl 19 (fun vs=>by kernel_rfl) #[.tmp 62] #[9] rfl #[.string d.ty] (by first|rfl|simp[Act.eval]) (mS (gD.up (aa HM) ((aa Jh).trans (aX.mono (aa Jh).size)) (aa HM).1) d.ty (aa C8).ty) ?_
        rintro e' aac ⟨⟨ps,kj,rfl⟩,ba⟩
        have NV:=aj kj
        clear kj
        have bo:=(ba.block _ (zA bo).1).trans bo
        have bL:=bL.trans (ba.mono bL.size)
        have aX:=aX.trans (ba.mono aX.size)
        refine ⟨_,rfl,hK _ _ ⟨fun _=>aX,?_⟩⟩
        clear hK K ba
        simp only[Act.put,zL,zM,zN]
        refine ay 8 (by kernel_rfl) rfl (fun K hK=>?_)
        refine aN 66 rfl rfl 22 (fun vs=>by kernel_rfl) #[.tmp 65] #[9] rfl #[.string d.name] (by first|rfl|simp[Act.eval]) (fM aac d.name (by have:=(aa C8).name;omega)) ?_
        rintro e' aab ⟨⟨xn,Le,rfl⟩,ba⟩
        have Q5:=aj Le
        clear Le
        have bo:=(ba.block _ (zA bo).1).trans bo
        have bL:=bL.trans (ba.mono bL.size)
        have aX:=aX.trans (ba.mono aX.size)
        refine ⟨_,rfl,hK _ _ ⟨fun _=>aX,?_⟩⟩
        clear hK K ba
        simp only[Act.put,zL,zM,zN]
        refine ay 11 (by kernel_rfl) rfl (fun K hK=>?_)
        refine aN 69 rfl rfl 11 (fun vs=>by kernel_rfl) #[.tmp 68,.const (.int .i64 0),.const (.int .i64 2147483647)] #[3,3,3] rfl #[.int .i64 d.num,.int .i64 0,.int .i64 2147483647] (by first|rfl|simp[Act.eval]) (dZ aab (aa C8).num (by decide) (by decide) (by decide)) ?_
        rintro e' aaa ⟨⟨q4,FP,rfl⟩,nF⟩
        have Nb:=aj FP
        clear FP
        have ba:=kf nF
        clear nF
        have bo:=(ba.block _ (zA bo).1).trans bo
        have bL:=bL.trans (ba.mono bL.size)
        have aX:=aX.trans (ba.mono aX.size)
        refine ⟨_,rfl,hK _ _ ⟨fun _=>aX,?_⟩⟩
        clear hK K ba
        simp only[Act.put,zL,zM,zN]
        have hT:=aX
        refine aq 12 ((.agg #[.int .i64 q0,.string ⟨#[]⟩,.string (gQ ps),.string xn,.int .i64 q4,.int .i64 0])) 70 rfl rfl (Or.inl ⟨by rfl,fun w' hw=>by go_simp⟩) hT ?_
        simp only[Act.put,zL,zM,zN]
        clear hT
        refine ay 14 (by kernel_rfl) rfl (fun K hK=>?_)
        obtain ⟨p,rT⟩:∃p,wd.heap.size=p:=⟨_,rfl⟩
        rw[rT] at bo dr lV ⊢
        obtain ⟨c0,c1,c2,c3,c4,c5⟩:=wG bo
        have z:∀j,aaa.frozen? ⟨p,j,none⟩=false:=fun j=>by simp[World.frozen?,bo]
        have z0:=z 0
        have z1:=z 1
        have z2:=z 2
        have z3:=z 3
        have z4:=z 4
        have z5:=z 5
        have hF:=FT.new (x:=⟨q0,⟨#[]⟩,gQ ps,xn,q4,0⟩) (aa xX) aX lV bo (aa U1)
        have hX:Qh ⟨q0,⟨#[]⟩,gQ ps,xn,q4,0⟩:=pI (aa U5) (aa NV) (aa Q5) (aa Nb)
        go_simp
        refine hK _ _ ⟨fun h=>absurd rfl h,?_⟩
        clear hK K
        refine bn (by kernel_rfl) ?_
        have HF:=aj hF
        have HX:=aj hX
        clear hF hX bL aX dr lV bo z z0 z1 z2 z3 z4 z5 c0 c1 c2 c3 c4 c5
        go_wp2_with fail
        go_meet
        exact ⟨p,_,rfl,HF,HX⟩
      case rest =>
       obtain ⟨p,x,rfl,HF,HX⟩:=hcut
       clear E3 U1 xX ny HBn
       obtain ⟨w4,kL⟩:∃x,x=wc:=⟨_,rfl⟩
       subst kL
       have YD:=aj (show Below W.heap.size W w4 from (aa kp).trans ((aa HF).cp.ez.mono (aa kp).size))
       go_upto_region 11 with fail
       obtain ⟨c0,c1,c2,c3,c4,c5⟩:=bY (aa HF).pk
       go_cut [73] (fun v73 wx=>v73=.bool (decide (x.dF=4))∧wx=w4)
       case first =>
        go_wp2_with fail
        go_meet
        refine ⟨congrArg Value.bool ?_,rfl⟩
        rw[Bool.eq_iff_iff,beq_iff_eq,decide_eq_true_iff]
       case rest =>
        obtain ⟨rfl,vW⟩:=hcut
        obtain rfl:w4=wc:=vW.symm
        clear vW
        go_upto_if 73 with fail
        go_cut [] (fun wx=>∃x1:Fd,Hid (FT wo wx b p vb (.slice Vp qc.length Vo) (.slice Nt qs.length Ns) (.slice JO l1.length JM) (.slice JP l2.length JN) y qc qs l1 l2 d x1)∧Hid (YL x1))
        case first =>
         have HK:=aj (mS (gD.up (aa HM) (aa YD) (aa HM).1) d.key (aa C8).key)
         by_cases h4:x.dF=4
         ·rw[decide_eq_true h4]
          have H4:=aj h4
          clear h4
          go_upto_region 12 with fail
          obtain ⟨y0,y1,y2,y3,y4,y5⟩:=bY (aa HF).vk
          go_wp2_with fail
          refine (aa HK).mono ?_
          rintro e w5 ⟨⟨ks,hks,rfl⟩,jf⟩
          have HF5:=aj ((aa HF).below jf)
          have HKs:=aj hks
          clear jf hks c0 c1 c2 c3 c4 c5 y0 y1 y2 y3 y4 y5
          obtain ⟨c0,c1,c2,c3,c4,c5⟩:=bY (aa HF5).pk
          have LB:w5.frozen? ⟨p,1,none⟩=false:=by simp[World.frozen?,(aa HF5).pk]
          go_wp2
          go_meet
          exact ⟨{ x with key:=gQ ks },(aa HF5).set rfl,Pr (aa HX) (aa H4) (aa HKs)⟩
         ·rw[decide_eq_false h4]
          have H4:=aj h4
          clear h4
          go_wp2_with fail
          go_meet
          exact ⟨x,HF,IJ (aa HX) (aa H4)⟩
        case rest =>
         obtain ⟨x1,pW,C6⟩:=hcut
         clear HF HX YD c0 c1 c2 c3 c4 c5
         obtain ⟨w6,NB⟩:∃x,x=wc:=⟨_,rfl⟩
         subst NB
         have Nk:=aj (show Below W.heap.size W w6 from (aa kp).trans ((aa pW).cp.ez.mono (aa kp).size))
         go_upto_region 13 with fail
         obtain ⟨y0,y1,y2,y3,y4,y5⟩:=bY (aa pW).vk
         go_cut [80] (fun v80 wx=>v80=.bool (decide (d.oneof≠0))∧wx=w6)
         case first =>
          go_wp2_with fail
          go_meet
          refine ⟨congrArg Value.bool ?_,rfl⟩
          rw[Bool.eq_iff_iff,bne_iff_ne,decide_eq_true_iff]
         case rest =>
          obtain ⟨rfl,vW⟩:=hcut
          obtain rfl:w6=wc:=vW.symm
          clear vW
          go_upto_if 80 with fail
          go_cut [] (fun wx=>∃(Vm:Value) (G9:List ByteArray) (x2:Fd),Hid (FT wo wx b p vb (.slice Vp qc.length Vo) Vm (.slice JO l1.length JM) (.slice JP l2.length JN) y qc G9 l1 l2 d x2)∧Hid (YK x2∧G9.length≤k+1∧(∀z ∈ G9,aU z)∧mr G9 (qc++[x2])))
          case first =>
           by_cases h5:d.oneof=0
           ·rw[decide_eq_false (fun e=>e h5)]
            have H5:=aj h5
            clear h5
            go_wp2_with fail
            go_meet
            have h7:=aa xj
            exact ⟨_,qs,x1,pW,(aa C6).fd,by have:=h7.2.1;omega,h7.2.2.2.1,h7.2.2.2.2.no (aa C6).no⟩
           ·rw[decide_eq_true h5]
            have H5:=aj h5
            clear h5
            go_upto_region 14 with fail
            obtain ⟨c0,c1,c2,c3,c4,c5⟩:=bY (aa pW).pk
            have Y6:w6.frozen? ⟨p,0,none⟩=false:=by simp[World.frozen?,(aa pW).pk]
            have Ys:=aj ((aa pW).set (j:=0) (u:=.int .i64 1) (x':={ x1 with dF:=1 }) rfl)
            go_upto_region 15 with fail
            clear c0 c1 c2 c3 c4 c5 y0 y1 y2 y3 y4 y5 Y6
            obtain ⟨w7,Ea⟩:∃x,w6.setCell ⟨p,0,none⟩ (.int .i64 1)=x:=⟨_,rfl⟩
            rw[Ea] at Ys ⊢
            clear Ea
            obtain ⟨c0,c1,c2,c3,c4,c5⟩:=bY (aa Ys).pk
            have Y6:w7.frozen? ⟨p,1,none⟩=false:=by simp[World.frozen?,(aa Ys).pk]
            have mu:=aj ((aa Ys).set (j:=1) (u:=.string ⟨#[]⟩) (x':={ x1 with dF:=1,key:=⟨#[]⟩ }) rfl)
            go_upto_region 16 with fail
            clear c0 c1 c2 c3 c4 c5 Y6 Ys
            obtain ⟨w8,V5⟩:∃x,w7.setCell ⟨p,1,none⟩ (.string ⟨#[]⟩)=x:=⟨_,rfl⟩
            rw[V5] at mu ⊢
            clear V5
            obtain ⟨y0,y1,y2,y3,y4,y5⟩:=bY (aa mu).vk
            obtain ⟨c0,c1,c2,c3,c4,c5,c6⟩:=kA (aa mu).cp.dt
            go_cut [100] (fun aae wx=>∃B:Bool,aae=.bool B∧wx=w8∧Hid (B=false→∃e,qc[qc.length-1]?=some e∧e.oneof≠0))
            case first =>
             by_cases ha:d.oneof.tmod 2=0
             ·by_cases mh:(k:Int)=0
              ·go_wp2_with fail
               go_meet
               exact ⟨true,rfl,rfl,fun e=>by cases e⟩
              ·obtain ⟨k1,rfl⟩:∃k1,k=k1+1:=⟨k-1,by omega⟩
               have NI:=(aa xj).1
               obtain ⟨e,he⟩:∃e,qc[k1]?=some e:=⟨_,List.getElem?_eq_getElem (by omega)⟩
               obtain ⟨au,cu,heq,-,h9⟩:=(iD (aa mu).cp.f).rd
               obtain ⟨gu,rfl,lp,hcu⟩:=h9 (by omega)
               cases heq
               have cu5:w8.cell? ⟨gu,k1*6+5,none⟩=some (.int .i64 e.oneof):=hcu _ _ (pG qc k1 e he 5 _ rfl)
               have k3:((k1+1:Nat):Int)-1=(k1:Int):=by omega
               have k4:(0:Int)≤(k1:Int):=by omega
               have k5:(k1:Int)<(qc.length:Int):=by omega
               have Hfl:=aj NI
               have He:=aj he
               clear NI he hcu lp h9
               by_cases WX:e.oneof=0
               ·have he1:(e.oneof==0)=true:=by rw[WX];rfl
                have k6:((k1:Int)+1==0)=false:=by rw[beq_eq_false_iff_ne];omega
                clear WX
                go_wp2_with fail
                go_meet
                exact ⟨true,rfl,rfl,fun q=>by cases q⟩
               ·have He0:=aj WX
                have he1:(e.oneof==0)=false:=by rw[beq_eq_false_iff_ne];exact WX
                have k6:((k1:Int)+1==0)=false:=by rw[beq_eq_false_iff_ne];omega
                clear WX
                go_wp2_with fail
                go_meet
                exact ⟨false,rfl,rfl,fun _=>⟨e,by rw[aa Hfl,Nat.add_sub_cancel];exact aa He,aa He0⟩⟩
             ·go_wp2_with fail
              go_meet
              exact ⟨true,rfl,rfl,fun e=>by cases e⟩
            case rest =>
             obtain ⟨B,rfl,vW,NY⟩:=hcut
             obtain rfl:w8=wc:=vW.symm
             clear vW
             go_upto_if 100 with fail
             go_cut [] (fun wx=>∃(Vm:Value) (G9:List ByteArray),Hid (FT wo wx b p vb (.slice Vp qc.length Vo) Vm (.slice JO l1.length JM) (.slice JP l2.length JN) y qc G9 l1 l2 d { x1 with dF:=1,key:=⟨#[]⟩ })∧Hid ((B=false∧G9=qs)∨∃z,aU z∧G9=qs++[z]))
             case first =>
              cases B with
              |false =>
               go_wp2_with fail
               go_meet
               exact ⟨_,qs,mu,.inl ⟨by first|rfl|trivial,rfl⟩⟩
              |true =>
               go_upto_region 17 with fail
               refine wp_region_any (by kernel_rfl) (ck (z:=8) (T:=fun w'=>w'.cell? ⟨b,2,none⟩=some (.slice Nt qs.length Ns)∧w'.cell? ⟨vb,1,none⟩=some (.string d.key)) _ _ _ _ ?_)
               try (change cL _ _ _ _ _ _ _ _ _ (World.drew _))
               have hF:=(aa mu).below (below_drewN (zE w8.heap.size w8) 1)
               change FT _ w8.drew _ _ _ _ _ _ _ _ _ _ _ _ _ _ at hF
               obtain ⟨wd,jb⟩:∃x,w8.drew=x:=⟨_,rfl⟩
               rw[jb] at hF ⊢
               clear jb y0 y1 y2 y3 y4 y5 c0 c1 c2 c3 c4 c5 c6
               have hT:(fun w':World=>w'.cell? ⟨b,2,none⟩=some (.slice Nt qs.length Ns)∧w'.cell? ⟨vb,1,none⟩=some (.string d.key)) wd:=⟨(kA hF.cp.dt).2.2.1,(bY hF.vk).2.1⟩
               refine aq 0 (.pointer (some ⟨b,2,none⟩)) 101 rfl rfl (Or.inl ⟨by rfl,fun w' hw=>by obtain ⟨t0,t1⟩:=hw;go_simp⟩) hT ?_
               simp only[Act.put,zL,zM,zN]
               refine aq 1 (.slice Nt qs.length Ns) 102 rfl rfl (Or.inl ⟨by rfl,fun w' hw=>by obtain ⟨t0,t1⟩:=hw;go_simp⟩) hT ?_
               simp only[Act.put,zL,zM,zN]
               refine aq 2 (.pointer (some ⟨vb,1,none⟩)) 103 rfl rfl (Or.inl ⟨by rfl,fun w' hw=>by obtain ⟨t0,t1⟩:=hw;go_simp⟩) hT ?_
               simp only[Act.put,zL,zM,zN]
               refine aq 3 (.string d.key) 104 rfl rfl (Or.inl ⟨by rfl,fun w' hw=>by obtain ⟨t0,t1⟩:=hw;go_simp⟩) hT ?_
               simp only[Act.put,zL,zM,zN]
               refine ay 4 (by kernel_rfl) rfl (fun K hK=>?_)
               refine aN 105 rfl rfl 22 (fun vs=>by kernel_rfl) #[.tmp 104] #[9] rfl #[.string d.key] (by first|rfl|simp[Act.eval]) (fM wd d.key (by have:=(aa C8).key;omega)) ?_
               rintro e' w9 ⟨⟨z,hz,rfl⟩,ba⟩
               have hF:=hF.below ba
               have hT:(fun w':World=>w'.cell? ⟨b,2,none⟩=some (.slice Nt qs.length Ns)∧w'.cell? ⟨vb,1,none⟩=some (.string d.key)) w9:=⟨(kA hF.cp.dt).2.2.1,(bY hF.vk).2.1⟩
               refine ⟨_,rfl,hK _ _ ⟨fun _=>hT,?_⟩⟩
               have HZn:=aj hz
               clear hK K ba hz
               simp only[Act.put,zL,zM,zN]
               obtain ⟨wy,Lf⟩:∃x,w9.alloc (.cells #[.string z] 9)=x:=⟨_,rfl⟩
               have ba:Below w9.heap.size w9 wy:=by rw[←Lf];exact (zE _ _).alloc (zD _) _
               have hF:=hF.below ba
               have hT:(fun w':World=>w'.cell? ⟨b,2,none⟩=some (.slice Nt qs.length Ns)∧w'.cell? ⟨vb,1,none⟩=some (.string d.key)) wy:=⟨(kA hF.cp.dt).2.2.1,(bY hF.vk).2.1⟩
               have Wt:∀j u,[Value.string z][j]?=some u→wy.cell? ((⟨w9.heap.size,0,none⟩:Addr).add j)=some u:=by rw[←Lf];exact nv _ _ _
               refine ay 5 (by kernel_rfl) rfl (fun K hK=>?_)
               go_simp
               refine hK _ _ ⟨fun _=>hT,?_⟩
               clear hK K Lf ba
               refine ay 6 (by kernel_rfl) rfl (fun K hK=>?_)
               refine oX 107 rfl rfl (.tmp 102) (.tmp 106) 22 rfl wo.heap.size 9 s0 (.string ByteArray.empty) 1 16 Tryz.underlying22 hs mG sz1 sz2 rfl (by decide) (.slice Nt qs.length Ns) qs.length _ (by first|rfl|simp[Act.eval]) hF.cp.o ⟨w9.heap.size,0,none⟩ 1 1 [.string z] (by first|rfl|simp[Act.eval]) rfl Wt (by simp[Value.oneCell']) (by have:=aa gN;have:=(aa HS).fl;have:=(aa xj).2.1;unfold maxLen;omega) (by have:=aa gN;have:=(aa HS).fl;have:=(aa xj).2.1;omega) hF.cp.ez.size ?_
               intro v' w2 ho dP yC
               have gO:=(dP.block _ (zA hF.cp.dt).1 (fun e=>bF hF.cp.o hF.cp.dt (by decide) e.symm)).trans hF.cp.dt
               have Qu:=(dP.block _ (zA hF.vk).1 (fun e=>bF hF.cp.o hF.vk (by decide) e.symm)).trans hF.vk
               have Zu:=hF.OB dP ho yC
               obtain ⟨a',c',rfl⟩:=bj ho
               have jR:(fun w':World=>w'.cell? ⟨b,2,none⟩=some (.slice Nt qs.length Ns)∧w'.cell? ⟨vb,1,none⟩=some (.string d.key)) w2:=⟨(kA gO).2.2.1,(bY Qu).2.1⟩
               refine hK _ _ ⟨fun _=>jR,?_⟩
               clear hK K hF hT dP Wt yC
               simp only[Act.put,zL,zM,zN]
               refine ay 7 (by kernel_rfl) rfl (fun K hK=>?_)
               go_simp
               refine hK _ _ ⟨fun _=>jR,?_⟩
               clear hK K
               have SQ:=jR.1
               have UI:w2.frozen? ⟨b,2,none⟩=false:=by simp[World.frozen?,gO]
               refine ay 8 (by kernel_rfl) rfl (fun K hK=>?_)
               go_simp
               refine hK _ _ ⟨fun h=>absurd rfl h,?_⟩
               have HF9:=aj Zu
               clear hK K SQ UI jR ho Zu gO Qu
               refine bn (by kernel_rfl) ?_
               go_wp2_with fail
               go_meet
               exact ⟨_,qs++[z],HF9,.inr ⟨z,aa HZn,rfl⟩⟩
             case rest =>
              obtain ⟨Vm,G9,Yt,HO8⟩:=hcut
              obtain ⟨a8,c8,rfl⟩:=bj (aa Yt).cp.o
              clear mu y0 y1 y2 y3 y4 y5 c0 c1 c2 c3 c4 c5 c6
              obtain ⟨w10,aau⟩:∃x,x=wc:=⟨_,rfl⟩
              subst aau
              go_upto_region 18 with fail
              obtain ⟨q0,q1,q2,q3,q4,q5⟩:=bY (aa Yt).pk
              obtain ⟨c0,c1,c2,c3,c4,c5,c6⟩:=kA (aa Yt).cp.dt
              have Y6:w10.frozen? ⟨p,5,none⟩=false:=by simp[World.frozen?,(aa Yt).pk]
              go_wp2_with fail
              go_meet
              refine ⟨_,G9,{ x1 with dF:=1,key:=⟨#[]⟩,oneof:=(G9.length:Int) },(aa Yt).set rfl,?_⟩
              obtain ⟨f1,f2,f3,f4,f5⟩:=aa xj
              obtain ⟨ps,kj⟩:=(aa C6).ty
              refine ⟨Tn kj _,?_⟩
              rcases aa HO8 with ⟨hB,rfl⟩|⟨z,hz,rfl⟩
              ·obtain ⟨e,he,eo⟩:=aa NY hB
               exact ⟨by omega,f4,f5.on he eo rfl⟩
              ·refine ⟨by rw[zK];simp;omega,fun x hx=>?_,f5.more (by simp)⟩
               rcases List.mem_append.1 hx with hx|hx
               ·exact f4 x hx
               ·rw[List.mem_singleton.1 hx];exact hz
          case rest =>
           obtain ⟨Vm,G9,x2,NW,X7⟩:=hcut
           obtain ⟨a3,c3,rfl⟩:=bj (aa NW).cp.o
           clear pW C6 Nk y0 y1 y2 y3 y4 y5 X6 C8
           obtain ⟨YS,aat⟩:∃x,x=wc:=⟨_,rfl⟩
           subst aat
           go_upto_region 19 with fail
           obtain ⟨q0,q1,q2,q3,q4,q5⟩:=bY (aa NW).pk
           obtain ⟨c0,c1,c2,c3,c4,c5,c6⟩:=kA (aa NW).cp.dt
           have Yu:=aj ((aa NW).cp.below ((zE _ _).alloc (zD YS.heap.size) (.cells x2.arr 70)))
           go_wp2_with (at_builtin;refine wpList_append_own_at _ rfl _ _ 61 rfl wo.heap.size 70 j0 (.agg #[.int .i64 0,.string ByteArray.empty,.string ByteArray.empty,.string ByteArray.empty,.int .i64 0,.int .i64 0]) 6 72 Tryz.underlying61 hj VX VW VV rfl (by decide) _ _ _ rfl (aa Yu).f ⟨YS.heap.size,0,none⟩ 1 1 [.int .i64 x2.dF,.string x2.key,.string x2.ty,.string x2.name,.int .i64 x2.num,.int .i64 x2.oneof] rfl rfl (nv _ _ _) (by simp[Value.oneCell']) (by have:=aa gN;have:=(aa HS).fl;have:=(aa xj).1;unfold maxLen;omega) (by have:=aa gN;have:=(aa HS).fl;have:=(aa xj).1;omega) (aa Yu).ez.size ?_;intro v' w2 ho dP _ _;obtain ⟨a4,c4,rfl⟩:=bj ho;obtain ⟨h1,h2,h3⟩:=tL.push (aa Yu) x2 dP ho;have HC9:=aj h1;clear ho dP h1)
           go_roundg (fs.length-(k+1))
           case measure=>have:=aa nH;have:=aa gN;omega
           case rel =>
            obtain ⟨f1,f2,f3,f4,f5⟩:=aa xj
            obtain ⟨e1,e2,e3,e4⟩:=aa X7
            refine ⟨k+1,_,_,qc++[x2],G9,by go_num,rfl,aa gN,HC9,by rw[zK,f1];rfl,e2,fun q hq=>?_,e3,e4⟩
            rcases List.mem_append.1 hq with hq|hq
            ·exact f3 q hq
            ·rw[List.mem_singleton.1 hq];exact e1
     ·obtain rfl:k=fs.length:=by omega
      have k1':¬((fs.length:Nat):Int)<(fs.length:Int):=by omega
      have HU:=aj (aa ny).done
      go_upto_region 20 with fail
      go_wp2_with fail
      refine (aa Ym wr (aa xl)).mono ?_
      rintro e w5 ⟨⟨um,cs2,R6,rfl,dQ,Wy,vZ,lU⟩,jf⟩
      have HU5:=aj ((aa HU).below jf)
      have Ya:=aj ((aa HU).aag jf dQ Wy)
      have NU:=aj (And.intro vZ lU)
      obtain ⟨am2,cm2,rfl⟩:=bj dQ
      obtain ⟨c0,c1,c2,c3,c4,c5,c6⟩:=kA (aa HU5).dt
      have LB:w5.frozen? ⟨b,3,none⟩=false:=by simp[World.frozen?,(aa HU5).dt]
      clear jf dQ Wy vZ lU x0 x1 x2 x3 x4 x5 x6 ny HU xl
      go_upto_region 21 with fail
      obtain ⟨w6,NB⟩:∃x,w5.setCell ⟨b,3,none⟩ (.slice am2 R6.length cm2)=x:=⟨_,rfl⟩
      rw[NB] at Ya ⊢
      clear NB LB c0 c1 c2 c3 c4 c5 c6 HU5
      have Nk:=aj (show Below W.heap.size W w6 from (aa kp).trans ((aa Ya).ez.mono (aa kp).size))
      obtain ⟨x0,x1,x2,x3,x4,x5,x6⟩:=aa iu w6 (aa Nk)
      go_wp2_with fail
      refine (aa xW w6 (aa Nk)).mono ?_
      rintro e w7 ⟨⟨ue,cs3,Tp,rfl,Zf,WU,WW,Ws,Cc⟩,hb7⟩
      rw[←WW] at Zf
      have HU7:=aj ((aa Ya).below hb7)
      have U2:=aj ((aa Ya).aah hb7 Zf WU)
      have HQ3:=aj (And.intro Ws Cc)
      obtain ⟨am3,cm3,rfl⟩:=bj Zf
      obtain ⟨c0,c1,c2,c3,c4,c5,c6⟩:=kA (aa HU7).dt
      have LB:w7.frozen? ⟨b,4,none⟩=false:=by simp[World.frozen?,(aa HU7).dt]
      clear hb7 Zf WU WW Ws Cc x0 x1 x2 x3 x4 x5 x6 Ya Nk
      go_upto_region 22 with fail
      obtain ⟨w8,V5⟩:∃x,w7.setCell ⟨b,4,none⟩ (.slice am3 Tp.length cm3)=x:=⟨_,rfl⟩
      rw[V5] at U2 ⊢
      clear V5 LB c0 c1 c2 c3 c4 c5 c6 HU7
      obtain ⟨c0,c1,c2,c3,c4,c5,c6⟩:=kA (aa U2).dt
      have qS:=aj (show w0.heap.size≤w8.heap.size from Nat.le_trans (aa HB).size (aa U2).ez.size)
      have HO5:=aj (ct (aa HO) (aa U2).ez)
      have AX:=aj ((aa HB).trans ((aa U2).ez.mono (aa HB).size))
      obtain ⟨a9,c9,rfl⟩:=bj (aa HO)
      go_wp2_with (at_builtin;refine wpList_append_own_at _ rfl _ _ 23 rfl w0.heap.size 64 i0 (.agg #[.string ByteArray.empty,.slice none 0 0,.slice none 0 0,.slice none 0 0,.slice none 0 0,.slice none 0 0,.slice none 0 0]) 7 160 Tryz.underlying23 hi nD nC oK rfl (by decide) _ _ _ rfl ((aa HO5).alloc _) ⟨w8.heap.size,0,none⟩ 1 1 [.string y,.slice Vp qc.length Vo,.slice Nt qs.length Ns,.slice am2 R6.length cm2,.slice am3 Tp.length cm3,.slice JO l1.length JM,.slice JP l2.length JN] rfl rfl (nv _ _ _) (by simp[Value.oneCell']) (by have:=aa dA;have:=aa Hl;unfold maxLen;omega) (by have:=aa dA;have:=aa Hl;omega) (by rw[zJ];have:=aa qS;omega) ?_;intro v' w2 ho dP _ yC;have HO6:=aj ho;have Ua:=aj ((aa U2).out (aa HO) (aa Yw) (aa HB).size ((zE _ _).alloc (zD _) _) dP yC);have YE:=aj (((aa AX).alloc (aa AX).size _).grown dP (by rw[zJ];have:=aa qS;omega) (fun q e=>((aa HO).lt q e).1));clear ho dP yC)
      go_roundg (l.length-(i+1))
      case measure=>have:=aa fQ;have:=aa dA;omega
      case rel =>
       refine ⟨i+1,_,acc++[.mk y qc qs R6 Tp l1 l2],by go_num,rfl,aa dA,HO6,Ua,?_,YE⟩
       obtain ⟨q1,q2,q3⟩:=aa YI
       obtain ⟨f1,f2,f3,f4,q,f5,-,-⟩:=aa xj
       obtain ⟨g1,g2⟩:=aa NU
       obtain ⟨g3,g4⟩:=aa HQ3
       refine ⟨by rw[zK,q1];rfl,fun e he=>?_,?_⟩
       ·rcases List.mem_append.1 he with he|he
        ·exact q2 e he
        ·rw[List.mem_singleton.1 he]
         exact ⟨aa E2,f3,f4,f5.seq qc,g1,g3,(aa AW).2,(aa qT).2⟩
       ·rw[jX,eX (DX (f+1)) (aa Hr)]
        have h1:mw (f+1) (.mk y qc qs R6 Tp l1 l2)=100+100*qc.length+(20*l1.length+10*l2.length)+bG (mw f) R6+bG mY Tp:=rfl
        have h2:DX (f+1) (.mk nm fs os ms es rs gs)=100+100*fs.length+(20*rs.length+10*gs.length)+bG (DX f) ms+bG Gb es:=rfl
        have h3:bG (mw (f+1)) [.mk y qc qs R6 Tp l1 l2]=mw (f+1) (.mk y qc qs R6 Tp l1 l2):=by simp[bG]
        rw[h3,h1,h2]
        have:=(aa AW).1
        have:=(aa qT).1
        omega
  ·obtain rfl:i=l.length:=by omega
   have hA:=aa YI
   rw[List.take_length] at hA
   have lE:=aj hA
   clear hA
   go_wp2
   go_ret
   exact ⟨⟨_,mq,acc,rfl,by rw[(aa lE).1];exact aa HO,aa Yw,(aa lE).2.1,(aa lE).2.2⟩,aa HB⟩
theorem nR:∀f,f≤30→P1 f
 |0,_=>B3
 |f+1,h=>B0 (by omega) (nR f (by omega))
end Go.Proofs.YtmlphohdcejniaaGreatDoor

import Derived.Test.YtmlphohdcejniaaGreatDoorM46
set_option maxHeartbeats 16000000
set_option maxRecDepth 100000
namespace Go.Proofs.YtmlphohdcejniaaGreatDoor
open Go.RowKit
attribute [local go_sem ↓] Go.wp_at_zero Go.wp_at_succ
theorem xY {w:World}{b:Nat}{v0 v1 v2 v3 v4 v5:Value}{t:TypeId} (hn:w.heap[b]?=some (.cells #[v0,v1,v2,v3,v4,v5] t (0,0))):w.cell? ⟨b,0,none⟩=some v0∧w.cell? ⟨b,1,none⟩=some v1∧w.cell? ⟨b,2,none⟩=some v2∧w.cell? ⟨b,3,none⟩=some v3∧w.cell? ⟨b,4,none⟩=some v4∧w.cell? ⟨b,5,none⟩=some v5 :=
 ⟨cell_of_row _ _ _ _ _ _ hn,cell_of_row _ _ _ _ _ _ hn,cell_of_row _ _ _ _ _ _ hn,cell_of_row _ _ _ _ _ _ hn,cell_of_row _ _ _ _ _ _ hn,cell_of_row _ _ _ _ _ _ hn⟩
theorem qG {q0 q4:Int}{ps:List ByteArray}{xn:ByteArray} (h0:1≤q0∧q0≤4) (hp:ik ps) (hn:aR xn) (h4:0≤q4∧q4≤2147483647):Sp ⟨q0,⟨#[]⟩,iu ps,xn,q4,0⟩:=⟨⟨ps,rfl,hp,hn,h4⟩,rfl,h0,rfl⟩
theorem lk {w:World}{b:Nat}{v0 v1 v2 v3 v4 v5 v6:Value}{t:TypeId} (hn:w.heap[b]?=some (.cells #[v0,v1,v2,v3,v4,v5,v6] t (0,0))):w.cell? ⟨b,0,none⟩=some v0∧w.cell? ⟨b,1,none⟩=some v1∧w.cell? ⟨b,2,none⟩=some v2∧w.cell? ⟨b,3,none⟩=some v3∧w.cell? ⟨b,4,none⟩=some v4∧w.cell? ⟨b,5,none⟩=some v5∧w.cell? ⟨b,6,none⟩=some v6 :=
 ⟨cell_of_row _ _ _ _ _ _ hn,cell_of_row _ _ _ _ _ _ hn,cell_of_row _ _ _ _ _ _ hn,cell_of_row _ _ _ _ _ _ hn,cell_of_row _ _ _ _ _ _ hn,cell_of_row _ _ _ _ _ _ hn,cell_of_row _ _ _ _ _ _ hn⟩
theorem DD:R8 0:=by
 intro W v l cs hv _ _ _ w0 hw _
 obtain ⟨a,c,rfl,hn,-⟩:=hv
 have HB:=aj (zE w0.heap.size w0)
 clear hw
 go_enter Tryz.func16,Tryz.ntmps16
 go_wp2
 go_loopg [5,6,7,8,9,10] 1 (fun gk v5 v6 _ _ _ _ wr=>v5=.slice none 0 0∧v6=.int .i64 0∧gk=1∧Hid (wr=w0))
 case atStart=>exact ⟨rfl,rfl,rfl,rfl⟩
 case round =>
  obtain ⟨rfl,rfl,fi,HW⟩:=hrel
  clear fi
  by_cases h0:(0:Int)<(l.length:Int)
  ·go_wp2
   go_ret
   have:=aa HW
   subst this
   first|exact ⟨⟨_,[],[],rfl,⟨rfl,.inl ⟨rfl,rfl⟩⟩,.nil,fun e he=>by (cases he),Nat.zero_le _⟩,aa HB⟩|exact ⟨⟨_,rfl,[],[],⟨rfl,.inl ⟨rfl,rfl⟩⟩,.nil,fun e he=>by (cases he),Nat.zero_le _⟩,aa HB⟩
  ·go_wp2
   go_ret
   have:=aa HW
   subst this
   first|exact ⟨⟨_,[],[],rfl,⟨rfl,.inl ⟨rfl,rfl⟩⟩,.nil,fun e he=>by (cases he),Nat.zero_le _⟩,aa HB⟩|exact ⟨⟨_,rfl,[],[],⟨rfl,.inl ⟨rfl,rfl⟩⟩,.nil,fun e he=>by (cases he),Nat.zero_le _⟩,aa HB⟩
theorem DC {f:Nat} (hf:f<30) (ih:R8 f):R8 (f+1):=by
 intro W v l cs hv hm hl hz w0 hw hM
 obtain ⟨a,c,rfl,hn,h2⟩:=hv
 obtain ⟨i0,hi,oH,oG,pQ⟩:=info_parts Ui
 obtain ⟨j0,hj,XV,XU,XT⟩:=info_parts Uj
 obtain ⟨s0,hs,nv,sz1,sz2⟩:=info_parts Ug
 obtain ⟨dz,Cy⟩:∃z,(30-((f+1:Nat):Int))=z:=⟨_,rfl⟩
 rw[Cy]
 have Cz:0≤dz:=by omega
 have hd1:dz<30:=by omega
 have Hdz:=aj (show dz+1=30-(f:Int) by omega)
 have H2:=aj h2
 have HW:=aj hw
 have Hl:=aj hl
 have Hms:=aj hm
 have Hz:=aj hz
 have Hih:=aj ih
 have HM:=aj hM
 clear h2 hw hl hm hz ih Cy hf hM
 go_enter Tryz.func16,Tryz.ntmps16
 go_wp2
 go_loopg [5,6,7,8,9,10] l.length (fun gk v5 v6 _ _ _ _ wr=>∃(i:Nat) (kO:List Value) (acc:List Ms),v6=.int .i64 (i:Int)∧gk=l.length-i∧i≤l.length∧Hid (wr.ownsRow w0.heap.size 64 7 v5 i kO)∧Hid (cU (Rest w0.heap.size v5) wr kO acc)∧Hid (acc.length=i∧(∀m ∈ acc,Gw (f+1) m)∧bI (ni (f+1)) acc≤bI (FA (f+1)) (l.take i))∧Hid (Below w0.heap.size w0 wr))
 case atStart=>exact ⟨0,[],[],rfl,rfl,by omega,⟨rfl,.inl ⟨rfl,rfl⟩⟩,.nil,⟨rfl,fun e he=>by (cases he),zD _⟩,zE _ _⟩
 case round =>
  obtain ⟨i,kO,acc,rfl,fi,qz,HO,HES,HAc,HB⟩:=hrel
  have gA:=aj fi
  clear fi
  obtain ⟨wo,Uq⟩:∃x,x=wr:=⟨_,rfl⟩
  subst Uq
  by_cases cw:i<l.length
  ·obtain ⟨g,o,rfl,hg,hc⟩:=aa H2 (by omega)
   obtain ⟨m,hr⟩:∃m,l[i]?=some m:=⟨_,List.getElem?_eq_getElem cw⟩
   have Nc:=List.mem_of_getElem? hr
   obtain ⟨vf,vo,vm,ve,vr,vg,nm,fs,os,ms,es,rs,gs,cm,ce,Ux,hV⟩:=(aa Hms).at i m hr
   obtain rfl:=hV.is
   obtain ⟨Pn,hzi⟩:=aa Hz _ Nc
   have kZ:=aj (show Below W.heap.size W wo from (aa HW).trans ((aa HB).mono (aa HW).size))
   have iU:Hid (∀w',Below W.heap.size W w'→w'.cell? ⟨g,o+i*7,none⟩=some (.string nm)∧w'.cell? ⟨g,o+i*7+1,none⟩=some vf∧w'.cell? ⟨g,o+i*7+2,none⟩=some vo∧w'.cell? ⟨g,o+i*7+3,none⟩=some vm∧w'.cell? ⟨g,o+i*7+4,none⟩=some ve∧w'.cell? ⟨g,o+i*7+5,none⟩=some vr∧w'.cell? ⟨g,o+i*7+6,none⟩=some vg):=by
    intro w' hb
    have key:∀(j:Nat) (x:Value),[Value.string nm,vf,vo,vm,ve,vr,vg][j]?=some x→w'.cell? ⟨g,o+(i*7+j),none⟩=some x:=fun j x hx=>(hb.cell (p:=⟨g,o+(i*7+j),none⟩) hg).trans (hc _ _ (by
     rw[←Ux,List.getElem?_take,List.getElem?_drop] at hx
     split at hx
     ·exact hx
     ·cases hx))
    exact ⟨key 0 _ rfl,key 1 _ rfl,key 2 _ rfl,key 3 _ rfl,key 4 _ rfl,key 5 _ rfl,key 6 _ rfl⟩
   have O5:=aj (show nm.size≤140737488351232 by have:=Pn.nm;omega)
   have HR:=aj (fun w' hb=>C' (lo:=1) (hi:=536870911) (by decide) (by decide) (by decide) hV.hr Pn.rl Pn.res w' hb)
   have HT:=aj (fun w' hb=>zy hV.hg Pn.gl Pn.gone w' hb)
   have HM1:=aj (fun w' hb=>aa Hih W vm ms cm hV.hm hV.jT Pn.ml hzi w' hb (aa HM))
   rw[←aa Hdz] at HM1
   have zt:=aj (fun w' hb=>x8 hV.he hV.mP Pn.el Pn.es w' hb)
   obtain ⟨af,cf,rfl,Wv,M3⟩:=hV.hf
   obtain ⟨ao,co,rfl,-,-⟩:=hV.ho
   obtain ⟨am,PD,rfl,-,-⟩:=hV.hm
   obtain ⟨ae,RP,rfl,-,-⟩:=hV.he
   obtain ⟨ar,cr,rfl,-,-⟩:=hV.hr
   obtain ⟨ag,cg,rfl,-,-⟩:=hV.hg
   have Z5:=aj M3
   have i0':(0:Int)≤(i:Int):=zH _
   have i1:(i:Int)<(l.length:Int):=by omega
   have dN:=aj cw
   have Hr:=aj hr
   have HS:=aj Pn
   clear hc Nc Ux M3 cw hr hV Pn hzi
   go_upto_region 5 with fail
   go_cut [7] (fun v7 wx=>∃(b:Nat) (y:ByteArray) (l1:List (Int×Int)) (l2:List ByteArray) (ur ug:Value),v7=.pointer (some ⟨b,0,none⟩)∧Hid (vj wo wx b (.slice none 0 0) (.slice none 0 0) ur ug y [] [] l1 l2)∧Hid (aR y)∧Hid (l1.length=rs.length∧Cl 1 536870911 l1)∧Hid (l2.length=gs.length∧∀x ∈ l2,aR x))
   case first =>
    refine wp_region_any (by kernel_rfl) (cj (z:=99) (T:=fun w'=>Below W.heap.size W w') _ _ _ _ ?_)
    try (change cW _ _ _ _ _ _ _ _ _ (World.drew _))
    have aX:Below W.heap.size W wo.drew:=below_drewN (aa kZ) 1
    have bP:Below wo.heap.size wo wo.drew:=below_drewN (zE wo.heap.size wo) 1
    obtain ⟨wd,iZ⟩:∃x,wo.drew=x:=⟨_,rfl⟩
    rw[iZ] at aX bP ⊢
    have hT:=aX
    refine ak 0 (.slice (some ⟨g,o,none⟩) l.length c) 21 rfl rfl (Or.inl ⟨by rfl,fun w' hw=>by obtain ⟨x0,x1,x2,x3,x4,x5,x6⟩:=aa iU w' hw;go_simp⟩) hT ?_
    simp only[Act.put,zL,zM,zN]
    refine ak 1 (.int .i64 (i:Int)) 22 rfl rfl (Or.inl ⟨by rfl,fun w' hw=>by obtain ⟨x0,x1,x2,x3,x4,x5,x6⟩:=aa iU w' hw;go_simp⟩) hT ?_
    simp only[Act.put,zL,zM,zN]
    refine ak 2 (.pointer (some ⟨g,o+i*7,none⟩)) 23 rfl rfl (Or.inl ⟨by rfl,fun w' hw=>by obtain ⟨x0,x1,x2,x3,x4,x5,x6⟩:=aa iU w' hw;go_simp⟩) hT ?_
    simp only[Act.put,zL,zM,zN]
    refine ak 3 (.pointer (some ⟨g,o+i*7,none⟩)) 24 rfl rfl (Or.inl ⟨by rfl,fun w' hw=>by obtain ⟨x0,x1,x2,x3,x4,x5,x6⟩:=aa iU w' hw;go_simp⟩) hT ?_
    simp only[Act.put,zL,zM,zN]
    refine ak 4 (.string nm) 25 rfl rfl (Or.inl ⟨by rfl,fun w' hw=>by obtain ⟨x0,x1,x2,x3,x4,x5,x6⟩:=aa iU w' hw;go_simp⟩) hT ?_
    simp only[Act.put,zL,zM,zN]
    refine ak 6 (.slice (some ⟨g,o,none⟩) l.length c) 27 rfl rfl (Or.inl ⟨by rfl,fun w' hw=>by obtain ⟨x0,x1,x2,x3,x4,x5,x6⟩:=aa iU w' hw;go_simp⟩) hT ?_
    simp only[Act.put,zL,zM,zN]
    refine ak 7 (.int .i64 (i:Int)) 28 rfl rfl (Or.inl ⟨by rfl,fun w' hw=>by obtain ⟨x0,x1,x2,x3,x4,x5,x6⟩:=aa iU w' hw;go_simp⟩) hT ?_
    simp only[Act.put,zL,zM,zN]
    refine ak 8 (.pointer (some ⟨g,o+i*7,none⟩)) 29 rfl rfl (Or.inl ⟨by rfl,fun w' hw=>by obtain ⟨x0,x1,x2,x3,x4,x5,x6⟩:=aa iU w' hw;go_simp⟩) hT ?_
    simp only[Act.put,zL,zM,zN]
    refine ak 9 (.pointer (some ⟨g,o+i*7+5,none⟩)) 30 rfl rfl (Or.inl ⟨by rfl,fun w' hw=>by obtain ⟨x0,x1,x2,x3,x4,x5,x6⟩:=aa iU w' hw;go_simp⟩) hT ?_
    simp only[Act.put,zL,zM,zN]
    refine ak 10 (.slice ar rs.length cr) 31 rfl rfl (Or.inl ⟨by rfl,fun w' hw=>by obtain ⟨x0,x1,x2,x3,x4,x5,x6⟩:=aa iU w' hw;go_simp⟩) hT ?_
    simp only[Act.put,zL,zM,zN]
    refine ak 12 (.slice (some ⟨g,o,none⟩) l.length c) 33 rfl rfl (Or.inl ⟨by rfl,fun w' hw=>by obtain ⟨x0,x1,x2,x3,x4,x5,x6⟩:=aa iU w' hw;go_simp⟩) hT ?_
    simp only[Act.put,zL,zM,zN]
    refine ak 13 (.int .i64 (i:Int)) 34 rfl rfl (Or.inl ⟨by rfl,fun w' hw=>by obtain ⟨x0,x1,x2,x3,x4,x5,x6⟩:=aa iU w' hw;go_simp⟩) hT ?_
    simp only[Act.put,zL,zM,zN]
    refine ak 14 (.pointer (some ⟨g,o+i*7,none⟩)) 35 rfl rfl (Or.inl ⟨by rfl,fun w' hw=>by obtain ⟨x0,x1,x2,x3,x4,x5,x6⟩:=aa iU w' hw;go_simp⟩) hT ?_
    simp only[Act.put,zL,zM,zN]
    refine ak 15 (.pointer (some ⟨g,o+i*7+6,none⟩)) 36 rfl rfl (Or.inl ⟨by rfl,fun w' hw=>by obtain ⟨x0,x1,x2,x3,x4,x5,x6⟩:=aa iU w' hw;go_simp⟩) hT ?_
    simp only[Act.put,zL,zM,zN]
    refine ak 16 (.slice ag gs.length cg) 37 rfl rfl (Or.inl ⟨by rfl,fun w' hw=>by obtain ⟨x0,x1,x2,x3,x4,x5,x6⟩:=aa iU w' hw;go_simp⟩) hT ?_
    simp only[Act.put,zL,zM,zN]
    clear hT
    refine dC 5 19 (by kernel_rfl) rfl rfl (fun K hK=>?_) (fun K hK=>?_)
    ·refine aN 26 rfl rfl 22 (fun vs=>by kernel_rfl) #[.tmp 25] #[9] rfl #[.string nm] (by first|rfl|simp[Act.eval]) (gg wd nm (aa O5)) ?_
     rintro e' pP ⟨⟨y,hy,rfl⟩,ba⟩
     have Gz:=aj hy
     clear hy
     have bP:=bP.trans (ba.mono bP.size)
     have aX:=aX.trans (ba.mono aX.size)
     refine ⟨_,rfl,hK _ _ ⟨fun _=>aX,?_⟩⟩
     clear hK K ba
     simp only[Act.put,zL,zM,zN]
     refine dC 11 19 (by kernel_rfl) rfl rfl (fun K hK=>?_) (fun K hK=>?_)
     ·refine aN 32 rfl rfl 37 (fun vs=>by kernel_rfl) #[.tmp 31,.const (.int .i64 1),.const (.int .i64 536870911)] #[62,3,3] rfl #[.slice ar rs.length cr,.int .i64 1,.int .i64 536870911] (by first|rfl|simp[Act.eval]) (aa HR pP aX) ?_
      rintro e' qX ⟨⟨u1,l1,rfl,fp,eT,xM⟩,ba⟩
      have fp:=eJ fp (show wo.heap.size≤_ from bP.size)
      rw[←eT] at fp
      obtain ⟨I5,I4,rfl⟩:=bn fp
      have Cr:=aj (And.intro eT xM)
      clear eT xM
      have bP:=bP.trans (ba.mono bP.size)
      have aX:=aX.trans (ba.mono aX.size)
      refine ⟨_,rfl,hK _ _ ⟨fun _=>aX,?_⟩⟩
      clear hK K ba
      simp only[Act.put,zL,zM,zN]
      refine dC 17 19 (by kernel_rfl) rfl rfl (fun K hK=>?_) (fun K hK=>?_)
      ·refine aN 38 rfl rfl 38 (fun vs=>by kernel_rfl) #[.tmp 37] #[22] rfl #[.slice ag gs.length cg] (by first|rfl|simp[Act.eval]) (aa HT qX aX) ?_
       rintro e' qW ⟨⟨u2,l2,rfl,ep,kK,nM⟩,ba⟩
       have fp:=cz fp ba
       have ep:=eJ ep (show wo.heap.size≤_ from bP.size)
       rw[←kK] at ep
       obtain ⟨E8,E7,rfl⟩:=bn ep
       have sA:=aj (And.intro kK nM)
       clear kK nM
       have bP:=bP.trans (ba.mono bP.size)
       have aX:=aX.trans (ba.mono aX.size)
       refine ⟨_,rfl,hK _ _ ⟨fun _=>aX,?_⟩⟩
       clear hK K ba
       simp only[Act.put,zL,zM,zN]
       have hT:=aX
       refine ak 18 ((.agg #[.string y,.slice none 0 0,.slice none 0 0,.slice none 0 0,.slice none 0 0,.slice I5 l1.length I4,.slice E8 l2.length E7])) 39 rfl rfl (Or.inl ⟨by rfl,fun w' hw=>by go_simp⟩) hT ?_
       simp only[Act.put,zL,zM,zN]
       clear hT
       refine ay 19 (by kernel_rfl) rfl (fun K hK=>?_)
       obtain ⟨A1,ez⟩:∃x,qW.alloc (.cells #[.string ⟨#[]⟩,.slice none 0 0,.slice none 0 0,.slice none 0 0,.slice none 0 0,.slice none 0 0,.slice none 0 0] 64)=x:=⟨_,rfl⟩
       have ba:Below qW.heap.size qW A1:=by rw[←ez];exact (zE _ _).alloc (zD _) _
       have bo:A1.heap[qW.heap.size]?=some (.cells #[.string ⟨#[]⟩,.slice none 0 0,.slice none 0 0,.slice none 0 0,.slice none 0 0,.slice none 0 0,.slice none 0 0] 64 (0,0)):=by rw[←ez];exact aC _ _
       have dI:wo.heap.size≤qW.heap.size:=bP.size
       go_simp
       have fp:=cz fp ba
       have ep:=cz ep ba
       have bP:=bP.trans (ba.mono bP.size)
       have aX:=aX.trans (ba.mono aX.size)
       refine hK _ _ ⟨fun _=>aX,?_⟩
       clear hK K ez ba
       refine ay 20 (by kernel_rfl) rfl (fun K hK=>?_)
       obtain ⟨b,tr⟩:∃b,qW.heap.size=b:=⟨_,rfl⟩
       rw[tr] at bo dI ⊢
       obtain ⟨c0,c1,c2,c3,c4,c5,c6⟩:=lk bo
       have z:∀j,A1.frozen? ⟨b,j,none⟩=false:=fun j=>by simp[World.frozen?,bo]
       have z0:=z 0
       have z1:=z 1
       have z2:=z 2
       have z3:=z 3
       have z4:=z 4
       have z5:=z 5
       have z6:=z 6
       have hC:=vj.new (nm:=y) bP dI bo fp ep
       go_simp
       refine hK _ _ ⟨fun _=>(aa kZ).trans (hC.eL.mono (aa kZ).size),?_⟩
       clear hK K
       refine bj (by kernel_rfl) ?_
       have HC:=aj hC
       clear hC bP aX dI bo z z0 z1 z2 z3 z4 z5 z6 c0 c1 c2 c3 c4 c5 c6 fp ep
       go_wp2_with fail
       go_meet
       exact ⟨b,y,l1,l2,_,_,rfl,HC,Gz,Cr,sA⟩
      ·obtain ⟨EN,ez⟩:∃x,qX.alloc (.cells #[.string ⟨#[]⟩,.slice none 0 0,.slice none 0 0,.slice none 0 0,.slice none 0 0,.slice none 0 0,.slice none 0 0] 64)=x:=⟨_,rfl⟩
       have ba:Below qX.heap.size qX EN:=by rw[←ez];exact (zE _ _).alloc (zD _) _
       have bo:EN.heap[qX.heap.size]?=some (.cells #[.string ⟨#[]⟩,.slice none 0 0,.slice none 0 0,.slice none 0 0,.slice none 0 0,.slice none 0 0,.slice none 0 0] 64 (0,0)):=by rw[←ez];exact aC _ _
       have dI:wo.heap.size≤qX.heap.size:=bP.size
       go_simp
       have fp:=cz fp ba
       have bP:=bP.trans (ba.mono bP.size)
       have aX:=aX.trans (ba.mono aX.size)
       refine hK _ _ ⟨fun _=>aX,?_⟩
       clear hK K ez ba
       refine ay 17 (by kernel_rfl) rfl (fun K hK=>?_)
       refine aN 38 rfl rfl 38 (fun vs=>by kernel_rfl) #[.tmp 37] #[22] rfl #[.slice ag gs.length cg] (by first|rfl|simp[Act.eval]) (aa HT EN aX) ?_
       rintro e' PT ⟨⟨u2,l2,rfl,ep,kK,nM⟩,ba⟩
       have fp:=cz fp ba
       have ep:=eJ ep (show wo.heap.size≤_ from bP.size)
       rw[←kK] at ep
       obtain ⟨E8,E7,rfl⟩:=bn ep
       have sA:=aj (And.intro kK nM)
       clear kK nM
       have bo:=(ba.block _ (zA bo).1).trans bo
       have bP:=bP.trans (ba.mono bP.size)
       have aX:=aX.trans (ba.mono aX.size)
       refine ⟨_,rfl,hK _ _ ⟨fun _=>aX,?_⟩⟩
       clear hK K ba
       simp only[Act.put,zL,zM,zN]
       have hT:=aX
       refine ak 18 ((.agg #[.string y,.slice none 0 0,.slice none 0 0,.slice none 0 0,.slice none 0 0,.slice I5 l1.length I4,.slice E8 l2.length E7])) 39 rfl rfl (Or.inl ⟨by rfl,fun w' hw=>by go_simp⟩) hT ?_
       simp only[Act.put,zL,zM,zN]
       clear hT
       refine ay 20 (by kernel_rfl) rfl (fun K hK=>?_)
       obtain ⟨b,tr⟩:∃b,qX.heap.size=b:=⟨_,rfl⟩
       rw[tr] at bo dI ⊢
       obtain ⟨c0,c1,c2,c3,c4,c5,c6⟩:=lk bo
       have z:∀j,PT.frozen? ⟨b,j,none⟩=false:=fun j=>by simp[World.frozen?,bo]
       have z0:=z 0
       have z1:=z 1
       have z2:=z 2
       have z3:=z 3
       have z4:=z 4
       have z5:=z 5
       have z6:=z 6
       have hC:=vj.new (nm:=y) bP dI bo fp ep
       go_simp
       refine hK _ _ ⟨fun _=>(aa kZ).trans (hC.eL.mono (aa kZ).size),?_⟩
       clear hK K
       refine bj (by kernel_rfl) ?_
       have HC:=aj hC
       clear hC bP aX dI bo z z0 z1 z2 z3 z4 z5 z6 c0 c1 c2 c3 c4 c5 c6 fp ep
       go_wp2_with fail
       go_meet
       exact ⟨b,y,l1,l2,_,_,rfl,HC,Gz,Cr,sA⟩
     ·obtain ⟨K3,ez⟩:∃x,pP.alloc (.cells #[.string ⟨#[]⟩,.slice none 0 0,.slice none 0 0,.slice none 0 0,.slice none 0 0,.slice none 0 0,.slice none 0 0] 64)=x:=⟨_,rfl⟩
      have ba:Below pP.heap.size pP K3:=by rw[←ez];exact (zE _ _).alloc (zD _) _
      have bo:K3.heap[pP.heap.size]?=some (.cells #[.string ⟨#[]⟩,.slice none 0 0,.slice none 0 0,.slice none 0 0,.slice none 0 0,.slice none 0 0,.slice none 0 0] 64 (0,0)):=by rw[←ez];exact aC _ _
      have dI:wo.heap.size≤pP.heap.size:=bP.size
      go_simp
      have bP:=bP.trans (ba.mono bP.size)
      have aX:=aX.trans (ba.mono aX.size)
      refine hK _ _ ⟨fun _=>aX,?_⟩
      clear hK K ez ba
      refine ay 11 (by kernel_rfl) rfl (fun K hK=>?_)
      refine aN 32 rfl rfl 37 (fun vs=>by kernel_rfl) #[.tmp 31,.const (.int .i64 1),.const (.int .i64 536870911)] #[62,3,3] rfl #[.slice ar rs.length cr,.int .i64 1,.int .i64 536870911] (by first|rfl|simp[Act.eval]) (aa HR K3 aX) ?_
      rintro e' PS ⟨⟨u1,l1,rfl,fp,eT,xM⟩,ba⟩
      have fp:=eJ fp (show wo.heap.size≤_ from bP.size)
      rw[←eT] at fp
      obtain ⟨I5,I4,rfl⟩:=bn fp
      have Cr:=aj (And.intro eT xM)
      clear eT xM
      have bo:=(ba.block _ (zA bo).1).trans bo
      have bP:=bP.trans (ba.mono bP.size)
      have aX:=aX.trans (ba.mono aX.size)
      refine ⟨_,rfl,hK _ _ ⟨fun _=>aX,?_⟩⟩
      clear hK K ba
      simp only[Act.put,zL,zM,zN]
      refine ay 17 (by kernel_rfl) rfl (fun K hK=>?_)
      refine aN 38 rfl rfl 38 (fun vs=>by kernel_rfl) #[.tmp 37] #[22] rfl #[.slice ag gs.length cg] (by first|rfl|simp[Act.eval]) (aa HT PS aX) ?_
      rintro e' Tq ⟨⟨u2,l2,rfl,ep,kK,nM⟩,ba⟩
      have fp:=cz fp ba
      have ep:=eJ ep (show wo.heap.size≤_ from bP.size)
      rw[←kK] at ep
      obtain ⟨E8,E7,rfl⟩:=bn ep
      have sA:=aj (And.intro kK nM)
      clear kK nM
      have bo:=(ba.block _ (zA bo).1).trans bo
      have bP:=bP.trans (ba.mono bP.size)
      have aX:=aX.trans (ba.mono aX.size)
      refine ⟨_,rfl,hK _ _ ⟨fun _=>aX,?_⟩⟩
      clear hK K ba
      simp only[Act.put,zL,zM,zN]
      have hT:=aX
      refine ak 18 ((.agg #[.string y,.slice none 0 0,.slice none 0 0,.slice none 0 0,.slice none 0 0,.slice I5 l1.length I4,.slice E8 l2.length E7])) 39 rfl rfl (Or.inl ⟨by rfl,fun w' hw=>by go_simp⟩) hT ?_
      simp only[Act.put,zL,zM,zN]
      clear hT
      refine ay 20 (by kernel_rfl) rfl (fun K hK=>?_)
      obtain ⟨b,tr⟩:∃b,pP.heap.size=b:=⟨_,rfl⟩
      rw[tr] at bo dI ⊢
      obtain ⟨c0,c1,c2,c3,c4,c5,c6⟩:=lk bo
      have z:∀j,Tq.frozen? ⟨b,j,none⟩=false:=fun j=>by simp[World.frozen?,bo]
      have z0:=z 0
      have z1:=z 1
      have z2:=z 2
      have z3:=z 3
      have z4:=z 4
      have z5:=z 5
      have z6:=z 6
      have hC:=vj.new (nm:=y) bP dI bo fp ep
      go_simp
      refine hK _ _ ⟨fun _=>(aa kZ).trans (hC.eL.mono (aa kZ).size),?_⟩
      clear hK K
      refine bj (by kernel_rfl) ?_
      have HC:=aj hC
      clear hC bP aX dI bo z z0 z1 z2 z3 z4 z5 z6 c0 c1 c2 c3 c4 c5 c6 fp ep
      go_wp2_with fail
      go_meet
      exact ⟨b,y,l1,l2,_,_,rfl,HC,Gz,Cr,sA⟩
    ·obtain ⟨A2,ez⟩:∃x,wd.alloc (.cells #[.string ⟨#[]⟩,.slice none 0 0,.slice none 0 0,.slice none 0 0,.slice none 0 0,.slice none 0 0,.slice none 0 0] 64)=x:=⟨_,rfl⟩
     have ba:Below wd.heap.size wd A2:=by rw[←ez];exact (zE _ _).alloc (zD _) _
     have bo:A2.heap[wd.heap.size]?=some (.cells #[.string ⟨#[]⟩,.slice none 0 0,.slice none 0 0,.slice none 0 0,.slice none 0 0,.slice none 0 0,.slice none 0 0] 64 (0,0)):=by rw[←ez];exact aC _ _
     have dI:wo.heap.size≤wd.heap.size:=bP.size
     go_simp
     have bP:=bP.trans (ba.mono bP.size)
     have aX:=aX.trans (ba.mono aX.size)
     refine hK _ _ ⟨fun _=>aX,?_⟩
     clear hK K ez ba
     refine ay 5 (by kernel_rfl) rfl (fun K hK=>?_)
     refine aN 26 rfl rfl 22 (fun vs=>by kernel_rfl) #[.tmp 25] #[9] rfl #[.string nm] (by first|rfl|simp[Act.eval]) (gg A2 nm (aa O5)) ?_
     rintro e' IY ⟨⟨y,hy,rfl⟩,ba⟩
     have Gz:=aj hy
     clear hy
     have bo:=(ba.block _ (zA bo).1).trans bo
     have bP:=bP.trans (ba.mono bP.size)
     have aX:=aX.trans (ba.mono aX.size)
     refine ⟨_,rfl,hK _ _ ⟨fun _=>aX,?_⟩⟩
     clear hK K ba
     simp only[Act.put,zL,zM,zN]
     refine ay 11 (by kernel_rfl) rfl (fun K hK=>?_)
     refine aN 32 rfl rfl 37 (fun vs=>by kernel_rfl) #[.tmp 31,.const (.int .i64 1),.const (.int .i64 536870911)] #[62,3,3] rfl #[.slice ar rs.length cr,.int .i64 1,.int .i64 536870911] (by first|rfl|simp[Act.eval]) (aa HR IY aX) ?_
     rintro e' K5 ⟨⟨u1,l1,rfl,fp,eT,xM⟩,ba⟩
     have fp:=eJ fp (show wo.heap.size≤_ from bP.size)
     rw[←eT] at fp
     obtain ⟨I5,I4,rfl⟩:=bn fp
     have Cr:=aj (And.intro eT xM)
     clear eT xM
     have bo:=(ba.block _ (zA bo).1).trans bo
     have bP:=bP.trans (ba.mono bP.size)
     have aX:=aX.trans (ba.mono aX.size)
     refine ⟨_,rfl,hK _ _ ⟨fun _=>aX,?_⟩⟩
     clear hK K ba
     simp only[Act.put,zL,zM,zN]
     refine ay 17 (by kernel_rfl) rfl (fun K hK=>?_)
     refine aN 38 rfl rfl 38 (fun vs=>by kernel_rfl) #[.tmp 37] #[22] rfl #[.slice ag gs.length cg] (by first|rfl|simp[Act.eval]) (aa HT K5 aX) ?_
     rintro e' K4 ⟨⟨u2,l2,rfl,ep,kK,nM⟩,ba⟩
     have fp:=cz fp ba
     have ep:=eJ ep (show wo.heap.size≤_ from bP.size)
     rw[←kK] at ep
     obtain ⟨E8,E7,rfl⟩:=bn ep
     have sA:=aj (And.intro kK nM)
     clear kK nM
     have bo:=(ba.block _ (zA bo).1).trans bo
     have bP:=bP.trans (ba.mono bP.size)
     have aX:=aX.trans (ba.mono aX.size)
     refine ⟨_,rfl,hK _ _ ⟨fun _=>aX,?_⟩⟩
     clear hK K ba
     simp only[Act.put,zL,zM,zN]
     have hT:=aX
     refine ak 18 ((.agg #[.string y,.slice none 0 0,.slice none 0 0,.slice none 0 0,.slice none 0 0,.slice I5 l1.length I4,.slice E8 l2.length E7])) 39 rfl rfl (Or.inl ⟨by rfl,fun w' hw=>by go_simp⟩) hT ?_
     simp only[Act.put,zL,zM,zN]
     clear hT
     refine ay 20 (by kernel_rfl) rfl (fun K hK=>?_)
     obtain ⟨b,tr⟩:∃b,wd.heap.size=b:=⟨_,rfl⟩
     rw[tr] at bo dI ⊢
     obtain ⟨c0,c1,c2,c3,c4,c5,c6⟩:=lk bo
     have z:∀j,K4.frozen? ⟨b,j,none⟩=false:=fun j=>by simp[World.frozen?,bo]
     have z0:=z 0
     have z1:=z 1
     have z2:=z 2
     have z3:=z 3
     have z4:=z 4
     have z5:=z 5
     have z6:=z 6
     have hC:=vj.new (nm:=y) bP dI bo fp ep
     go_simp
     refine hK _ _ ⟨fun _=>(aa kZ).trans (hC.eL.mono (aa kZ).size),?_⟩
     clear hK K
     refine bj (by kernel_rfl) ?_
     have HC:=aj hC
     clear hC bP aX dI bo z z0 z1 z2 z3 z4 z5 z6 c0 c1 c2 c3 c4 c5 c6 fp ep
     go_wp2_with fail
     go_meet
     exact ⟨b,y,l1,l2,_,_,rfl,HC,Gz,Cr,sA⟩
   case rest =>
    obtain ⟨b,y,l1,l2,ur,ug,rfl,HC,Gz,Cr,sA⟩:=hcut
    obtain ⟨Le,Lc,rfl⟩:=bn (aa HC).r
    obtain ⟨Lf,Ld,rfl⟩:=bn (aa HC).g
    obtain ⟨x0,x1,x2,x3,x4,x5,x6⟩:=aa iU wc ((aa kZ).trans ((aa HC).eL.mono (aa kZ).size))
    go_upto_region 7 with fail
    clear x0 x1 x2 x3 x4 x5 x6
    go_loopg [8,9,10] fs.length (fun gk v8 _ _ wi=>∃(k:Nat) (uf uo:Value) (rj:List Fd) (rI:List ByteArray),v8=.int .i64 (k:Int)∧gk=fs.length-k∧k≤fs.length∧Hid (vj wo wi b uf uo (.slice Le l1.length Lc) (.slice Lf l2.length Ld) y rj rI l1 l2)∧Hid (rj.length=k∧rI.length≤k∧(∀d ∈ rj,FdR d)∧(∀x ∈ rI,aR x)∧nd rI rj))
    case atStart=>exact ⟨0,_,_,[],[],rfl,rfl,by omega,HC,⟨rfl,zD _,fun d hd=>by (cases hd),fun d hd=>by (cases hd),JD⟩⟩
    case round =>
     obtain ⟨k,uf,uo,rj,rI,rfl,kL,iq,oB,yE⟩:=hrel
     have oM:=aj kL
     clear kL HC
     obtain ⟨Xw,Xv,rfl⟩:=bn (aa oB).f
     obtain ⟨Pj,Pg,rfl⟩:=bn (aa oB).o
     have yG:=aj (show Below W.heap.size W wr from (aa kZ).trans ((aa oB).eL.mono (aa kZ).size))
     obtain ⟨x0,x1,x2,x3,x4,x5,x6⟩:=aa iU wr (aa yG)
     by_cases eP:k<fs.length
     ·obtain ⟨gv,ov,rfl,WD,FQ⟩:=aa Z5 (by omega)
      obtain ⟨d,nM⟩:∃d,fs[k]?=some d:=⟨_,List.getElem?_eq_getElem eP⟩
      have Z0:Hid (∀w',Below W.heap.size W w'→w'.cell? ⟨gv,ov+k*6,none⟩=some (.int .i64 d.dQ)∧w'.cell? ⟨gv,ov+k*6+1,none⟩=some (.string d.key)∧w'.cell? ⟨gv,ov+k*6+2,none⟩=some (.string d.ty)∧w'.cell? ⟨gv,ov+k*6+3,none⟩=some (.string d.name)∧w'.cell? ⟨gv,ov+k*6+4,none⟩=some (.int .i64 d.num)∧w'.cell? ⟨gv,ov+k*6+5,none⟩=some (.int .i64 d.oneof)):=by
       intro w' hb
       have key:∀(j:Nat) (x:Value),d.arr[j]?=some x→w'.cell? ⟨gv,ov+(k*6+j),none⟩=some x:=fun j x hx=>(hb.cell (p:=⟨gv,ov+(k*6+j),none⟩) WD).trans (FQ _ _ (qE fs k d nM j x hx))
       exact ⟨key 0 _ rfl,key 1 _ rfl,key 2 _ rfl,key 3 _ rfl,key 4 _ rfl,key 5 _ rfl⟩
      have EG:=aj ((aa HS).fs d (List.mem_of_getElem? nM))
      obtain ⟨y0,y1,y2,y3,y4,y5⟩:=aa Z0 wr (aa yG)
      have k0':(0:Int)≤(k:Int):=zH _
      have k1':(k:Int)<(fs.length:Int):=by omega
      have im:=aj eP
      have ba:Below wr.heap.size wr (wr.alloc (.cells d.arr 70)):=(zE _ _).alloc (zD _) _
      have Ns:(wr.alloc (.cells d.arr 70)).heap[wr.heap.size]?=some (.cells d.arr 70 (0,0)):=aC _ _
      obtain ⟨W2,ES⟩:∃W2,wr.alloc (.cells d.arr 70)=W2:=⟨_,rfl⟩
      rw[ES] at ba Ns
      unfold Fd.arr at ES
      have zu:=aj ((aa oB).below ba)
      have GA:Hid (∀w',Below W2.heap.size W2 w'→w'.heap[wr.heap.size]?=some (.cells d.arr 70 (0,0))):=fun w' hb=>(hb.block _ (zA Ns).1).trans Ns
      have HBn:=aj ba
      clear eP nM FQ ba
      go_upto_region 10 with fail
      obtain ⟨vb,vG⟩:∃vb,wr.heap.size=vb:=⟨_,rfl⟩
      rw[vG] at GA Ns ⊢
      have WY:=aj Ns
      clear vG Ns ES x0 x1 x2 x3 x4 x5 x6 y0 y1 y2 y3 y4 y5
      go_cut [10] (fun v10 wx=>∃(p:Nat) (x:Fd),v10=.pointer (some ⟨p,0,none⟩)∧Hid (FT wo wx b p vb (.slice Xw rj.length Xv) (.slice Pj rI.length Pg) (.slice Le l1.length Lc) (.slice Lf l2.length Ld) y rj rI l1 l2 d x)∧Hid (Sp x))
      case first =>
       refine wp_region_any (by kernel_rfl) (cj (z:=14) (T:=fun w'=>Below W2.heap.size W2 w') _ _ _ _ ?_)
       try (change cW _ _ _ _ _ _ _ _ _ (World.drew _))
       have KF:=aj ((aa kZ).trans ((aa zu).eL.mono (aa kZ).size))
       have aX:Below W2.heap.size W2 W2.drew:=below_drewN (zE W2.heap.size W2) 1
       have bP:Below wo.heap.size wo W2.drew:=below_drewN (aa zu).eL 1
       obtain ⟨wd,iZ⟩:∃x,W2.drew=x:=⟨_,rfl⟩
       rw[iZ] at aX bP ⊢
       clear iZ
       have hT:=aX
       refine ak 0 (.pointer (some ⟨vb,0,none⟩)) 58 rfl rfl (Or.inl ⟨by rfl,fun w' hw=>by obtain ⟨y0,y1,y2,y3,y4,y5⟩:=cc (aa GA w' hw);go_simp⟩) hT ?_
       simp only[Act.put,zL,zM,zN]
       refine ak 1 (.int .i64 d.dQ) 59 rfl rfl (Or.inl ⟨by rfl,fun w' hw=>by obtain ⟨y0,y1,y2,y3,y4,y5⟩:=cc (aa GA w' hw);go_simp⟩) hT ?_
       simp only[Act.put,zL,zM,zN]
       refine ak 3 (.pointer (some ⟨vb,2,none⟩)) 61 rfl rfl (Or.inl ⟨by rfl,fun w' hw=>by obtain ⟨y0,y1,y2,y3,y4,y5⟩:=cc (aa GA w' hw);go_simp⟩) hT ?_
       simp only[Act.put,zL,zM,zN]
       refine ak 4 (.string d.ty) 62 rfl rfl (Or.inl ⟨by rfl,fun w' hw=>by obtain ⟨y0,y1,y2,y3,y4,y5⟩:=cc (aa GA w' hw);go_simp⟩) hT ?_
       simp only[Act.put,zL,zM,zN]
       refine ak 6 (.pointer (some ⟨vb,3,none⟩)) 64 rfl rfl (Or.inl ⟨by rfl,fun w' hw=>by obtain ⟨y0,y1,y2,y3,y4,y5⟩:=cc (aa GA w' hw);go_simp⟩) hT ?_
       simp only[Act.put,zL,zM,zN]
       refine ak 7 (.string d.name) 65 rfl rfl (Or.inl ⟨by rfl,fun w' hw=>by obtain ⟨y0,y1,y2,y3,y4,y5⟩:=cc (aa GA w' hw);go_simp⟩) hT ?_
       simp only[Act.put,zL,zM,zN]
       refine ak 9 (.pointer (some ⟨vb,4,none⟩)) 67 rfl rfl (Or.inl ⟨by rfl,fun w' hw=>by obtain ⟨y0,y1,y2,y3,y4,y5⟩:=cc (aa GA w' hw);go_simp⟩) hT ?_
       simp only[Act.put,zL,zM,zN]
       refine ak 10 (.int .i64 d.num) 68 rfl rfl (Or.inl ⟨by rfl,fun w' hw=>by obtain ⟨y0,y1,y2,y3,y4,y5⟩:=cc (aa GA w' hw);go_simp⟩) hT ?_
       simp only[Act.put,zL,zM,zN]
       clear hT
       refine dC 2 13 (by kernel_rfl) rfl rfl (fun K hK=>?_) (fun K hK=>?_)
       ·refine aN 60 rfl rfl 11 (fun vs=>by kernel_rfl) #[.tmp 59,.const (.int .i64 1),.const (.int .i64 4)] #[3,3,3] rfl #[.int .i64 d.dQ,.int .i64 1,.int .i64 4] (by first|rfl|simp[Act.eval]) (dU wd (aa EG).dQ (by decide) (by decide) (by decide)) ?_
        rintro e' pP ⟨⟨q0,Ys,rfl⟩,oK⟩
        have Xb:=aj Ys
        clear Ys
        have ba:=kR oK
        clear oK
        have bP:=bP.trans (ba.mono bP.size)
        have aX:=aX.trans (ba.mono aX.size)
        refine ⟨_,rfl,hK _ _ ⟨fun _=>aX,?_⟩⟩
        clear hK K ba
        simp only[Act.put,zL,zM,zN]
        refine dC 5 13 (by kernel_rfl) rfl rfl (fun K hK=>?_) (fun K hK=>?_)
        ·refine aN 63 rfl rfl 19 (fun vs=>by kernel_rfl) #[.tmp 62] #[9] rfl #[.string d.ty] (by first|rfl|simp[Act.eval]) (nL (gY.up (aa HM) ((aa KF).trans (aX.mono (aa KF).size)) (aa HM).1) d.ty (aa EG).ty) ?_
         rintro e' qX ⟨⟨ps,kJ,rfl⟩,ba⟩
         have KV:=aj kJ
         clear kJ
         have bP:=bP.trans (ba.mono bP.size)
         have aX:=aX.trans (ba.mono aX.size)
         refine ⟨_,rfl,hK _ _ ⟨fun _=>aX,?_⟩⟩
         clear hK K ba
         simp only[Act.put,zL,zM,zN]
         refine dC 8 13 (by kernel_rfl) rfl rfl (fun K hK=>?_) (fun K hK=>?_)
         ·refine aN 66 rfl rfl 22 (fun vs=>by kernel_rfl) #[.tmp 65] #[9] rfl #[.string d.name] (by first|rfl|simp[Act.eval]) (gg qX d.name (by have:=(aa EG).name;omega)) ?_
          rintro e' qW ⟨⟨xn,MY,rfl⟩,ba⟩
          have Td:=aj MY
          clear MY
          have bP:=bP.trans (ba.mono bP.size)
          have aX:=aX.trans (ba.mono aX.size)
          refine ⟨_,rfl,hK _ _ ⟨fun _=>aX,?_⟩⟩
          clear hK K ba
          simp only[Act.put,zL,zM,zN]
          refine dC 11 13 (by kernel_rfl) rfl rfl (fun K hK=>?_) (fun K hK=>?_)
          ·refine aN 69 rfl rfl 11 (fun vs=>by kernel_rfl) #[.tmp 68,.const (.int .i64 0),.const (.int .i64 2147483647)] #[3,3,3] rfl #[.int .i64 d.num,.int .i64 0,.int .i64 2147483647] (by first|rfl|simp[Act.eval]) (dU qW (aa EG).num (by decide) (by decide) (by decide)) ?_
           rintro e' A1 ⟨⟨q4,Ic,rfl⟩,oK⟩
           have O3:=aj Ic
           clear Ic
           have ba:=kR oK
           clear oK
           have bP:=bP.trans (ba.mono bP.size)
           have aX:=aX.trans (ba.mono aX.size)
           refine ⟨_,rfl,hK _ _ ⟨fun _=>aX,?_⟩⟩
           clear hK K ba
           simp only[Act.put,zL,zM,zN]
           have hT:=aX
           refine ak 12 ((.agg #[.int .i64 q0,.string ⟨#[]⟩,.string (iu ps),.string xn,.int .i64 q4,.int .i64 0])) 70 rfl rfl (Or.inl ⟨by rfl,fun w' hw=>by go_simp⟩) hT ?_
           simp only[Act.put,zL,zM,zN]
           clear hT
           refine ay 13 (by kernel_rfl) rfl (fun K hK=>?_)
           have mN:=aX.size
           obtain ⟨EN,ez⟩:∃x,A1.alloc (.cells #[.int .i64 0,.string ⟨#[]⟩,.string ⟨#[]⟩,.string ⟨#[]⟩,.int .i64 0,.int .i64 0] 70)=x:=⟨_,rfl⟩
           have ba:Below A1.heap.size A1 EN:=by rw[←ez];exact (zE _ _).alloc (zD _) _
           have bo:EN.heap[A1.heap.size]?=some (.cells #[.int .i64 0,.string ⟨#[]⟩,.string ⟨#[]⟩,.string ⟨#[]⟩,.int .i64 0,.int .i64 0] 70 (0,0)):=by rw[←ez];exact aC _ _
           have dI:wo.heap.size≤A1.heap.size:=bP.size
           go_simp
           have bP:=bP.trans (ba.mono bP.size)
           have aX:=aX.trans (ba.mono aX.size)
           refine hK _ _ ⟨fun _=>aX,?_⟩
           clear hK K ez ba
           refine ay 14 (by kernel_rfl) rfl (fun K hK=>?_)
           obtain ⟨p,tr⟩:∃p,A1.heap.size=p:=⟨_,rfl⟩
           rw[tr] at bo dI mN ⊢
           obtain ⟨c0,c1,c2,c3,c4,c5⟩:=xY bo
           have z:∀j,EN.frozen? ⟨p,j,none⟩=false:=fun j=>by simp[World.frozen?,bo]
           have z0:=z 0
           have z1:=z 1
           have z2:=z 2
           have z3:=z 3
           have z4:=z 4
           have z5:=z 5
           have hF:=FT.new (x:=⟨q0,⟨#[]⟩,iu ps,xn,q4,0⟩) (aa zu) aX mN bo (aa WY)
           have hX:Sp ⟨q0,⟨#[]⟩,iu ps,xn,q4,0⟩:=qG (aa Xb) (aa KV) (aa Td) (aa O3)
           go_simp
           refine hK _ _ ⟨fun h=>absurd rfl h,?_⟩
           clear hK K
           refine bj (by kernel_rfl) ?_
           have HF:=aj hF
           have HX:=aj hX
           clear hF hX bP aX dI mN bo z z0 z1 z2 z3 z4 z5 c0 c1 c2 c3 c4 c5
           go_wp2_with fail
           go_meet
           exact ⟨p,_,rfl,HF,HX⟩
          ·have mN:=aX.size
           obtain ⟨PT,ez⟩:∃x,qW.alloc (.cells #[.int .i64 0,.string ⟨#[]⟩,.string ⟨#[]⟩,.string ⟨#[]⟩,.int .i64 0,.int .i64 0] 70)=x:=⟨_,rfl⟩
           have ba:Below qW.heap.size qW PT:=by rw[←ez];exact (zE _ _).alloc (zD _) _
           have bo:PT.heap[qW.heap.size]?=some (.cells #[.int .i64 0,.string ⟨#[]⟩,.string ⟨#[]⟩,.string ⟨#[]⟩,.int .i64 0,.int .i64 0] 70 (0,0)):=by rw[←ez];exact aC _ _
           have dI:wo.heap.size≤qW.heap.size:=bP.size
           go_simp
           have bP:=bP.trans (ba.mono bP.size)
           have aX:=aX.trans (ba.mono aX.size)
           refine hK _ _ ⟨fun _=>aX,?_⟩
           clear hK K ez ba
           refine ay 11 (by kernel_rfl) rfl (fun K hK=>?_)
           refine aN 69 rfl rfl 11 (fun vs=>by kernel_rfl) #[.tmp 68,.const (.int .i64 0),.const (.int .i64 2147483647)] #[3,3,3] rfl #[.int .i64 d.num,.int .i64 0,.int .i64 2147483647] (by first|rfl|simp[Act.eval]) (dU PT (aa EG).num (by decide) (by decide) (by decide)) ?_
           rintro e' K3 ⟨⟨q4,Ic,rfl⟩,oK⟩
           have O3:=aj Ic
           clear Ic
           have ba:=kR oK
           clear oK
           have bo:=(ba.block _ (zA bo).1).trans bo
           have bP:=bP.trans (ba.mono bP.size)
           have aX:=aX.trans (ba.mono aX.size)
           refine ⟨_,rfl,hK _ _ ⟨fun _=>aX,?_⟩⟩
           clear hK K ba
           simp only[Act.put,zL,zM,zN]
           have hT:=aX
           refine ak 12 ((.agg #[.int .i64 q0,.string ⟨#[]⟩,.string (iu ps),.string xn,.int .i64 q4,.int .i64 0])) 70 rfl rfl (Or.inl ⟨by rfl,fun w' hw=>by go_simp⟩) hT ?_
           simp only[Act.put,zL,zM,zN]
           clear hT
           refine ay 14 (by kernel_rfl) rfl (fun K hK=>?_)
           obtain ⟨p,tr⟩:∃p,qW.heap.size=p:=⟨_,rfl⟩
           rw[tr] at bo dI mN ⊢
           obtain ⟨c0,c1,c2,c3,c4,c5⟩:=xY bo
           have z:∀j,K3.frozen? ⟨p,j,none⟩=false:=fun j=>by simp[World.frozen?,bo]
           have z0:=z 0
           have z1:=z 1
           have z2:=z 2
           have z3:=z 3
           have z4:=z 4
           have z5:=z 5
           have hF:=FT.new (x:=⟨q0,⟨#[]⟩,iu ps,xn,q4,0⟩) (aa zu) aX mN bo (aa WY)
           have hX:Sp ⟨q0,⟨#[]⟩,iu ps,xn,q4,0⟩:=qG (aa Xb) (aa KV) (aa Td) (aa O3)
           go_simp
           refine hK _ _ ⟨fun h=>absurd rfl h,?_⟩
           clear hK K
           refine bj (by kernel_rfl) ?_
           have HF:=aj hF
           have HX:=aj hX
           clear hF hX bP aX dI mN bo z z0 z1 z2 z3 z4 z5 c0 c1 c2 c3 c4 c5
           go_wp2_with fail
           go_meet
           exact ⟨p,_,rfl,HF,HX⟩
         ·have mN:=aX.size
          obtain ⟨PS,ez⟩:∃x,qX.alloc (.cells #[.int .i64 0,.string ⟨#[]⟩,.string ⟨#[]⟩,.string ⟨#[]⟩,.int .i64 0,.int .i64 0] 70)=x:=⟨_,rfl⟩
          have ba:Below qX.heap.size qX PS:=by rw[←ez];exact (zE _ _).alloc (zD _) _
          have bo:PS.heap[qX.heap.size]?=some (.cells #[.int .i64 0,.string ⟨#[]⟩,.string ⟨#[]⟩,.string ⟨#[]⟩,.int .i64 0,.int .i64 0] 70 (0,0)):=by rw[←ez];exact aC _ _
          have dI:wo.heap.size≤qX.heap.size:=bP.size
          go_simp
          have bP:=bP.trans (ba.mono bP.size)
          have aX:=aX.trans (ba.mono aX.size)
          refine hK _ _ ⟨fun _=>aX,?_⟩
          clear hK K ez ba
          refine ay 8 (by kernel_rfl) rfl (fun K hK=>?_)
          refine aN 66 rfl rfl 22 (fun vs=>by kernel_rfl) #[.tmp 65] #[9] rfl #[.string d.name] (by first|rfl|simp[Act.eval]) (gg PS d.name (by have:=(aa EG).name;omega)) ?_
          rintro e' Tq ⟨⟨xn,MY,rfl⟩,ba⟩
          have Td:=aj MY
          clear MY
          have bo:=(ba.block _ (zA bo).1).trans bo
          have bP:=bP.trans (ba.mono bP.size)
          have aX:=aX.trans (ba.mono aX.size)
          refine ⟨_,rfl,hK _ _ ⟨fun _=>aX,?_⟩⟩
          clear hK K ba
          simp only[Act.put,zL,zM,zN]
          refine ay 11 (by kernel_rfl) rfl (fun K hK=>?_)
          refine aN 69 rfl rfl 11 (fun vs=>by kernel_rfl) #[.tmp 68,.const (.int .i64 0),.const (.int .i64 2147483647)] #[3,3,3] rfl #[.int .i64 d.num,.int .i64 0,.int .i64 2147483647] (by first|rfl|simp[Act.eval]) (dU Tq (aa EG).num (by decide) (by decide) (by decide)) ?_
          rintro e' A2 ⟨⟨q4,Ic,rfl⟩,oK⟩
          have O3:=aj Ic
          clear Ic
          have ba:=kR oK
          clear oK
          have bo:=(ba.block _ (zA bo).1).trans bo
          have bP:=bP.trans (ba.mono bP.size)
          have aX:=aX.trans (ba.mono aX.size)
          refine ⟨_,rfl,hK _ _ ⟨fun _=>aX,?_⟩⟩
          clear hK K ba
          simp only[Act.put,zL,zM,zN]
          have hT:=aX
          refine ak 12 ((.agg #[.int .i64 q0,.string ⟨#[]⟩,.string (iu ps),.string xn,.int .i64 q4,.int .i64 0])) 70 rfl rfl (Or.inl ⟨by rfl,fun w' hw=>by go_simp⟩) hT ?_
          simp only[Act.put,zL,zM,zN]
          clear hT
          refine ay 14 (by kernel_rfl) rfl (fun K hK=>?_)
          obtain ⟨p,tr⟩:∃p,qX.heap.size=p:=⟨_,rfl⟩
          rw[tr] at bo dI mN ⊢
          obtain ⟨c0,c1,c2,c3,c4,c5⟩:=xY bo
          have z:∀j,A2.frozen? ⟨p,j,none⟩=false:=fun j=>by simp[World.frozen?,bo]
          have z0:=z 0
          have z1:=z 1
          have z2:=z 2
          have z3:=z 3
          have z4:=z 4
          have z5:=z 5
          have hF:=FT.new (x:=⟨q0,⟨#[]⟩,iu ps,xn,q4,0⟩) (aa zu) aX mN bo (aa WY)
          have hX:Sp ⟨q0,⟨#[]⟩,iu ps,xn,q4,0⟩:=qG (aa Xb) (aa KV) (aa Td) (aa O3)
          go_simp
          refine hK _ _ ⟨fun h=>absurd rfl h,?_⟩
          clear hK K
          refine bj (by kernel_rfl) ?_
          have HF:=aj hF
          have HX:=aj hX
          clear hF hX bP aX dI mN bo z z0 z1 z2 z3 z4 z5 c0 c1 c2 c3 c4 c5
          go_wp2_with fail
          go_meet
          exact ⟨p,_,rfl,HF,HX⟩
        ·have mN:=aX.size
         obtain ⟨IY,ez⟩:∃x,pP.alloc (.cells #[.int .i64 0,.string ⟨#[]⟩,.string ⟨#[]⟩,.string ⟨#[]⟩,.int .i64 0,.int .i64 0] 70)=x:=⟨_,rfl⟩
         have ba:Below pP.heap.size pP IY:=by rw[←ez];exact (zE _ _).alloc (zD _) _
         have bo:IY.heap[pP.heap.size]?=some (.cells #[.int .i64 0,.string ⟨#[]⟩,.string ⟨#[]⟩,.string ⟨#[]⟩,.int .i64 0,.int .i64 0] 70 (0,0)):=by rw[←ez];exact aC _ _
         have dI:wo.heap.size≤pP.heap.size:=bP.size
         go_simp
         have bP:=bP.trans (ba.mono bP.size)
         have aX:=aX.trans (ba.mono aX.size)
         refine hK _ _ ⟨fun _=>aX,?_⟩
         clear hK K ez ba
         refine ay 5 (by kernel_rfl) rfl (fun K hK=>?_)
         refine aN 63 rfl rfl 19 (fun vs=>by kernel_rfl) #[.tmp 62] #[9] rfl #[.string d.ty] (by first|rfl|simp[Act.eval]) (nL (gY.up (aa HM) ((aa KF).trans (aX.mono (aa KF).size)) (aa HM).1) d.ty (aa EG).ty) ?_
         rintro e' K5 ⟨⟨ps,kJ,rfl⟩,ba⟩
         have KV:=aj kJ
         clear kJ
         have bo:=(ba.block _ (zA bo).1).trans bo
         have bP:=bP.trans (ba.mono bP.size)
         have aX:=aX.trans (ba.mono aX.size)
         refine ⟨_,rfl,hK _ _ ⟨fun _=>aX,?_⟩⟩
         clear hK K ba
         simp only[Act.put,zL,zM,zN]
         refine ay 8 (by kernel_rfl) rfl (fun K hK=>?_)
         refine aN 66 rfl rfl 22 (fun vs=>by kernel_rfl) #[.tmp 65] #[9] rfl #[.string d.name] (by first|rfl|simp[Act.eval]) (gg K5 d.name (by have:=(aa EG).name;omega)) ?_
         rintro e' K4 ⟨⟨xn,MY,rfl⟩,ba⟩
         have Td:=aj MY
         clear MY
         have bo:=(ba.block _ (zA bo).1).trans bo
         have bP:=bP.trans (ba.mono bP.size)
         have aX:=aX.trans (ba.mono aX.size)
         refine ⟨_,rfl,hK _ _ ⟨fun _=>aX,?_⟩⟩
         clear hK K ba
         simp only[Act.put,zL,zM,zN]
         refine ay 11 (by kernel_rfl) rfl (fun K hK=>?_)
         refine aN 69 rfl rfl 11 (fun vs=>by kernel_rfl) #[.tmp 68,.const (.int .i64 0),.const (.int .i64 2147483647)] #[3,3,3] rfl #[.int .i64 d.num,.int .i64 0,.int .i64 2147483647] (by first|rfl|simp[Act.eval]) (dU K4 (aa EG).num (by decide) (by decide) (by decide)) ?_
         rintro e' aay ⟨⟨q4,Ic,rfl⟩,oK⟩
         have O3:=aj Ic
         clear Ic
         have ba:=kR oK
         clear oK
         have bo:=(ba.block _ (zA bo).1).trans bo
         have bP:=bP.trans (ba.mono bP.size)
         have aX:=aX.trans (ba.mono aX.size)
         refine ⟨_,rfl,hK _ _ ⟨fun _=>aX,?_⟩⟩
         clear hK K ba
         simp only[Act.put,zL,zM,zN]
         have hT:=aX
         refine ak 12 ((.agg #[.int .i64 q0,.string ⟨#[]⟩,.string (iu ps),.string xn,.int .i64 q4,.int .i64 0])) 70 rfl rfl (Or.inl ⟨by rfl,fun w' hw=>by go_simp⟩) hT ?_
         simp only[Act.put,zL,zM,zN]
         clear hT
         refine ay 14 (by kernel_rfl) rfl (fun K hK=>?_)
         obtain ⟨p,tr⟩:∃p,pP.heap.size=p:=⟨_,rfl⟩
         rw[tr] at bo dI mN ⊢
         obtain ⟨c0,c1,c2,c3,c4,c5⟩:=xY bo
         have z:∀j,aay.frozen? ⟨p,j,none⟩=false:=fun j=>by simp[World.frozen?,bo]
         have z0:=z 0
         have z1:=z 1
         have z2:=z 2
         have z3:=z 3
         have z4:=z 4
         have z5:=z 5
         have hF:=FT.new (x:=⟨q0,⟨#[]⟩,iu ps,xn,q4,0⟩) (aa zu) aX mN bo (aa WY)
         have hX:Sp ⟨q0,⟨#[]⟩,iu ps,xn,q4,0⟩:=qG (aa Xb) (aa KV) (aa Td) (aa O3)
         go_simp
         refine hK _ _ ⟨fun h=>absurd rfl h,?_⟩
         clear hK K
         refine bj (by kernel_rfl) ?_
         have HF:=aj hF
         have HX:=aj hX
         clear hF hX bP aX dI mN bo z z0 z1 z2 z3 z4 z5 c0 c1 c2 c3 c4 c5
         go_wp2_with fail
         go_meet
         exact ⟨p,_,rfl,HF,HX⟩
       ·have mN:=aX.size
        obtain ⟨Tr,ez⟩:∃x,wd.alloc (.cells #[.int .i64 0,.string ⟨#[]⟩,.string ⟨#[]⟩,.string ⟨#[]⟩,.int .i64 0,.int .i64 0] 70)=x:=⟨_,rfl⟩
        have ba:Below wd.heap.size wd Tr:=by rw[←ez];exact (zE _ _).alloc (zD _) _
        have bo:Tr.heap[wd.heap.size]?=some (.cells #[.int .i64 0,.string ⟨#[]⟩,.string ⟨#[]⟩,.string ⟨#[]⟩,.int .i64 0,.int .i64 0] 70 (0,0)):=by rw[←ez];exact aC _ _
        have dI:wo.heap.size≤wd.heap.size:=bP.size
        go_simp
        have bP:=bP.trans (ba.mono bP.size)
        have aX:=aX.trans (ba.mono aX.size)
        refine hK _ _ ⟨fun _=>aX,?_⟩
        clear hK K ez ba
        refine ay 2 (by kernel_rfl) rfl (fun K hK=>?_)
        refine aN 60 rfl rfl 11 (fun vs=>by kernel_rfl) #[.tmp 59,.const (.int .i64 1),.const (.int .i64 4)] #[3,3,3] rfl #[.int .i64 d.dQ,.int .i64 1,.int .i64 4] (by first|rfl|simp[Act.eval]) (dU Tr (aa EG).dQ (by decide) (by decide) (by decide)) ?_
        rintro e' abU ⟨⟨q0,Ys,rfl⟩,oK⟩
        have Xb:=aj Ys
        clear Ys
        have ba:=kR oK
        clear oK
        have bo:=(ba.block _ (zA bo).1).trans bo
        have bP:=bP.trans (ba.mono bP.size)
        have aX:=aX.trans (ba.mono aX.size)
        refine ⟨_,rfl,hK _ _ ⟨fun _=>aX,?_⟩⟩
        clear hK K ba
        simp only[Act.put,zL,zM,zN]
        refine ay 5 (by kernel_rfl) rfl (fun K hK=>?_)
        refine aN 63 rfl rfl 19 (fun vs=>by kernel_rfl) #[.tmp 62] #[9] rfl #[.string d.ty] (by first|rfl|simp[Act.eval]) (nL (gY.up (aa HM) ((aa KF).trans (aX.mono (aa KF).size)) (aa HM).1) d.ty (aa EG).ty) ?_
        rintro e' aax ⟨⟨ps,kJ,rfl⟩,ba⟩
        have KV:=aj kJ
        clear kJ
        have bo:=(ba.block _ (zA bo).1).trans bo
        have bP:=bP.trans (ba.mono bP.size)
        have aX:=aX.trans (ba.mono aX.size)
        refine ⟨_,rfl,hK _ _ ⟨fun _=>aX,?_⟩⟩
        clear hK K ba
        simp only[Act.put,zL,zM,zN]
        refine ay 8 (by kernel_rfl) rfl (fun K hK=>?_)
        refine aN 66 rfl rfl 22 (fun vs=>by kernel_rfl) #[.tmp 65] #[9] rfl #[.string d.name] (by first|rfl|simp[Act.eval]) (gg aax d.name (by have:=(aa EG).name;omega)) ?_
        rintro e' aaw ⟨⟨xn,MY,rfl⟩,ba⟩
        have Td:=aj MY
        clear MY
        have bo:=(ba.block _ (zA bo).1).trans bo
        have bP:=bP.trans (ba.mono bP.size)
        have aX:=aX.trans (ba.mono aX.size)
        refine ⟨_,rfl,hK _ _ ⟨fun _=>aX,?_⟩⟩
        clear hK K ba
        simp only[Act.put,zL,zM,zN]
        refine ay 11 (by kernel_rfl) rfl (fun K hK=>?_)
        refine aN 69 rfl rfl 11 (fun vs=>by kernel_rfl) #[.tmp 68,.const (.int .i64 0),.const (.int .i64 2147483647)] #[3,3,3] rfl #[.int .i64 d.num,.int .i64 0,.int .i64 2147483647] (by first|rfl|simp[Act.eval]) (dU aaw (aa EG).num (by decide) (by decide) (by decide)) ?_
        rintro e' aav ⟨⟨q4,Ic,rfl⟩,oK⟩
        have O3:=aj Ic
        clear Ic
        have ba:=kR oK
        clear oK
        have bo:=(ba.block _ (zA bo).1).trans bo
        have bP:=bP.trans (ba.mono bP.size)
        have aX:=aX.trans (ba.mono aX.size)
        refine ⟨_,rfl,hK _ _ ⟨fun _=>aX,?_⟩⟩
        clear hK K ba
        simp only[Act.put,zL,zM,zN]
        have hT:=aX
        refine ak 12 ((.agg #[.int .i64 q0,.string ⟨#[]⟩,.string (iu ps),.string xn,.int .i64 q4,.int .i64 0])) 70 rfl rfl (Or.inl ⟨by rfl,fun w' hw=>by go_simp⟩) hT ?_
        simp only[Act.put,zL,zM,zN]
        clear hT
        refine ay 14 (by kernel_rfl) rfl (fun K hK=>?_)
        obtain ⟨p,tr⟩:∃p,wd.heap.size=p:=⟨_,rfl⟩
        rw[tr] at bo dI mN ⊢
        obtain ⟨c0,c1,c2,c3,c4,c5⟩:=xY bo
        have z:∀j,aav.frozen? ⟨p,j,none⟩=false:=fun j=>by simp[World.frozen?,bo]
        have z0:=z 0
        have z1:=z 1
        have z2:=z 2
        have z3:=z 3
        have z4:=z 4
        have z5:=z 5
        have hF:=FT.new (x:=⟨q0,⟨#[]⟩,iu ps,xn,q4,0⟩) (aa zu) aX mN bo (aa WY)
        have hX:Sp ⟨q0,⟨#[]⟩,iu ps,xn,q4,0⟩:=qG (aa Xb) (aa KV) (aa Td) (aa O3)
        go_simp
        refine hK _ _ ⟨fun h=>absurd rfl h,?_⟩
        clear hK K
        refine bj (by kernel_rfl) ?_
        have HF:=aj hF
        have HX:=aj hX
        clear hF hX bP aX dI mN bo z z0 z1 z2 z3 z4 z5 c0 c1 c2 c3 c4 c5
        go_wp2_with fail
        go_meet
        exact ⟨p,_,rfl,HF,HX⟩
      case rest =>
       obtain ⟨p,x,rfl,HF,HX⟩:=hcut
       clear GA WY zu oB HBn
       obtain ⟨w4,lG⟩:∃x,x=wc:=⟨_,rfl⟩
       subst lG
       have aae:=aj (show Below W.heap.size W w4 from (aa kZ).trans ((aa HF).cp.eL.mono (aa kZ).size))
       go_upto_region 11 with fail
       obtain ⟨c0,c1,c2,c3,c4,c5⟩:=cc (aa HF).pk
       go_cut [73] (fun v73 wx=>v73=.bool (decide (x.dQ=4))∧wx=w4)
       case first =>
        go_wp2_with fail
        go_meet
        refine ⟨congrArg Value.bool ?_,rfl⟩
        rw[Bool.eq_iff_iff,beq_iff_eq,decide_eq_true_iff]
       case rest =>
        obtain ⟨rfl,xK⟩:=hcut
        obtain rfl:w4=wc:=xK.symm
        clear xK
        go_upto_if 73 with fail
        go_cut [] (fun wx=>∃x1:Fd,Hid (FT wo wx b p vb (.slice Xw rj.length Xv) (.slice Pj rI.length Pg) (.slice Le l1.length Lc) (.slice Lf l2.length Ld) y rj rI l1 l2 d x1)∧Hid (Fd1 x1))
        case first =>
         have HK:=aj (nL (gY.up (aa HM) (aa aae) (aa HM).1) d.key (aa EG).key)
         by_cases h4:x.dQ=4
         ·rw[decide_eq_true h4]
          have H4:=aj h4
          clear h4
          go_upto_region 12 with fail
          obtain ⟨y0,y1,y2,y3,y4,y5⟩:=cc (aa HF).vk
          go_wp2_with fail
          refine (aa HK).mono ?_
          rintro e w5 ⟨⟨ks,hks,rfl⟩,kq⟩
          have HF5:=aj ((aa HF).below kq)
          have HKs:=aj hks
          clear kq hks c0 c1 c2 c3 c4 c5 y0 y1 y2 y3 y4 y5
          obtain ⟨c0,c1,c2,c3,c4,c5⟩:=cc (aa HF5).pk
          have Nk:w5.frozen? ⟨p,1,none⟩=false:=by simp[World.frozen?,(aa HF5).pk]
          go_wp2
          go_meet
          exact ⟨{ x with key:=iu ks },(aa HF5).set rfl,Rt (aa HX) (aa H4) (aa HKs)⟩
         ·rw[decide_eq_false h4]
          have H4:=aj h4
          clear h4
          go_wp2_with fail
          go_meet
          exact ⟨x,HF,Ka (aa HX) (aa H4)⟩
        case rest =>
         obtain ⟨x1,qV,EE⟩:=hcut
         clear HF HX aae c0 c1 c2 c3 c4 c5
         obtain ⟨w6,JY⟩:∃x,x=wc:=⟨_,rfl⟩
         subst JY
         have Pb:=aj (show Below W.heap.size W w6 from (aa kZ).trans ((aa qV).cp.eL.mono (aa kZ).size))
         go_upto_region 13 with fail
         obtain ⟨y0,y1,y2,y3,y4,y5⟩:=cc (aa qV).vk
         go_cut [80] (fun v80 wx=>v80=.bool (decide (d.oneof≠0))∧wx=w6)
         case first =>
          go_wp2_with fail
          go_meet
          refine ⟨congrArg Value.bool ?_,rfl⟩
          rw[Bool.eq_iff_iff,bne_iff_ne,decide_eq_true_iff]
         case rest =>
          obtain ⟨rfl,xK⟩:=hcut
          obtain rfl:w6=wc:=xK.symm
          clear xK
          go_upto_if 80 with fail
          go_cut [] (fun wx=>∃(Xt:Value) (Jy:List ByteArray) (x2:Fd),Hid (FT wo wx b p vb (.slice Xw rj.length Xv) Xt (.slice Le l1.length Lc) (.slice Lf l2.length Ld) y rj Jy l1 l2 d x2)∧Hid (FdR x2∧Jy.length≤k+1∧(∀z ∈ Jy,aR z)∧nd Jy (rj++[x2])))
          case first =>
           by_cases h5:d.oneof=0
           ·rw[decide_eq_false (fun e=>e h5)]
            have H5:=aj h5
            clear h5
            go_wp2_with fail
            go_meet
            have h7:=aa yE
            exact ⟨_,rI,x1,qV,(aa EE).fd,by have:=h7.2.1;omega,h7.2.2.2.1,h7.2.2.2.2.no (aa EE).no⟩
           ·rw[decide_eq_true h5]
            have H5:=aj h5
            clear h5
            go_upto_region 14 with fail
            obtain ⟨c0,c1,c2,c3,c4,c5⟩:=cc (aa qV).pk
            have hzf:w6.frozen? ⟨p,0,none⟩=false:=by simp[World.frozen?,(aa qV).pk]
            have HFa:=aj ((aa qV).set (j:=0) (u:=.int .i64 1) (x':={ x1 with dQ:=1 }) rfl)
            go_upto_region 15 with fail
            clear c0 c1 c2 c3 c4 c5 y0 y1 y2 y3 y4 y5 hzf
            obtain ⟨w7,FK⟩:∃x,w6.setCell ⟨p,0,none⟩ (.int .i64 1)=x:=⟨_,rfl⟩
            rw[FK] at HFa ⊢
            clear FK
            obtain ⟨c0,c1,c2,c3,c4,c5⟩:=cc (aa HFa).pk
            have hzf:w7.frozen? ⟨p,1,none⟩=false:=by simp[World.frozen?,(aa HFa).pk]
            have ng:=aj ((aa HFa).set (j:=1) (u:=.string ⟨#[]⟩) (x':={ x1 with dQ:=1,key:=⟨#[]⟩ }) rfl)
            go_upto_region 16 with fail
            clear c0 c1 c2 c3 c4 c5 hzf HFa
            obtain ⟨w8,X'⟩:∃x,w7.setCell ⟨p,1,none⟩ (.string ⟨#[]⟩)=x:=⟨_,rfl⟩
            rw[X'] at ng ⊢
            clear X'
            obtain ⟨y0,y1,y2,y3,y4,y5⟩:=cc (aa ng).vk
            obtain ⟨c0,c1,c2,c3,c4,c5,c6⟩:=lk (aa ng).cp.dJ
            go_cut [100] (fun aaz wx=>∃B:Bool,aaz=.bool B∧wx=w8∧Hid (B=false→∃e,rj[rj.length-1]?=some e∧e.oneof≠0))
            case first =>
             by_cases ha:d.oneof.tmod 2=0
             ·by_cases lM:(k:Int)=0
              ·go_wp2_with fail
               go_meet
               exact ⟨true,rfl,rfl,fun e=>by cases e⟩
              ·obtain ⟨k1,rfl⟩:∃k1,k=k1+1:=⟨k-1,by omega⟩
               have Ps:=(aa yE).1
               obtain ⟨e,he⟩:∃e,rj[k1]?=some e:=⟨_,List.getElem?_eq_getElem (by omega)⟩
               obtain ⟨au,cu,heq,-,h9⟩:=(jf (aa ng).cp.f).rd
               obtain ⟨gu,rfl,me,hcu⟩:=h9 (by omega)
               cases heq
               have cu5:w8.cell? ⟨gu,k1*6+5,none⟩=some (.int .i64 e.oneof):=hcu _ _ (qE rj k1 e he 5 _ rfl)
               have k3:((k1+1:Nat):Int)-1=(k1:Int):=by omega
               have k4:(0:Int)≤(k1:Int):=by omega
               have k5:(k1:Int)<(rj.length:Int):=by omega
               have Hfl:=aj Ps
               have He:=aj he
               clear Ps he hcu me h9
               by_cases YY:e.oneof=0
               ·have he1:(e.oneof==0)=true:=by rw[YY];rfl
                have k6:((k1:Int)+1==0)=false:=by rw[beq_eq_false_iff_ne];omega
                clear YY
                go_wp2_with fail
                go_meet
                exact ⟨true,rfl,rfl,fun q=>by cases q⟩
               ·have He0:=aj YY
                have he1:(e.oneof==0)=false:=by rw[beq_eq_false_iff_ne];exact YY
                have k6:((k1:Int)+1==0)=false:=by rw[beq_eq_false_iff_ne];omega
                clear YY
                go_wp2_with fail
                go_meet
                exact ⟨false,rfl,rfl,fun _=>⟨e,by rw[aa Hfl,Nat.add_sub_cancel];exact aa He,aa He0⟩⟩
             ·go_wp2_with fail
              go_meet
              exact ⟨true,rfl,rfl,fun e=>by cases e⟩
            case rest =>
             obtain ⟨B,rfl,xK,PK⟩:=hcut
             obtain rfl:w8=wc:=xK.symm
             clear xK
             go_upto_if 100 with fail
             go_cut [] (fun wx=>∃(Xt:Value) (Jy:List ByteArray),Hid (FT wo wx b p vb (.slice Xw rj.length Xv) Xt (.slice Le l1.length Lc) (.slice Lf l2.length Ld) y rj Jy l1 l2 d { x1 with dQ:=1,key:=⟨#[]⟩ })∧Hid ((B=false∧Jy=rI)∨∃z,aR z∧Jy=rI++[z]))
             case first =>
              cases B with
              |false =>
               go_wp2_with fail
               go_meet
               exact ⟨_,rI,ng,.inl ⟨by first|rfl|trivial,rfl⟩⟩
              |true =>
               go_upto_region 17 with fail
               refine wp_region_any (by kernel_rfl) (cj (z:=8) (T:=fun w'=>w'.cell? ⟨b,2,none⟩=some (.slice Pj rI.length Pg)∧w'.cell? ⟨vb,1,none⟩=some (.string d.key)) _ _ _ _ ?_)
               try (change cW _ _ _ _ _ _ _ _ _ (World.drew _))
               have hF:=(aa ng).below (below_drewN (zE w8.heap.size w8) 1)
               change FT _ w8.drew _ _ _ _ _ _ _ _ _ _ _ _ _ _ at hF
               obtain ⟨wd,iZ⟩:∃x,w8.drew=x:=⟨_,rfl⟩
               rw[iZ] at hF ⊢
               clear iZ y0 y1 y2 y3 y4 y5 c0 c1 c2 c3 c4 c5 c6
               have hT:(fun w':World=>w'.cell? ⟨b,2,none⟩=some (.slice Pj rI.length Pg)∧w'.cell? ⟨vb,1,none⟩=some (.string d.key)) wd:=⟨(lk hF.cp.dJ).2.2.1,(cc hF.vk).2.1⟩
               refine ak 0 (.pointer (some ⟨b,2,none⟩)) 101 rfl rfl (Or.inl ⟨by rfl,fun w' hw=>by obtain ⟨t0,t1⟩:=hw;go_simp⟩) hT ?_
               simp only[Act.put,zL,zM,zN]
               refine ak 1 (.slice Pj rI.length Pg) 102 rfl rfl (Or.inl ⟨by rfl,fun w' hw=>by obtain ⟨t0,t1⟩:=hw;go_simp⟩) hT ?_
               simp only[Act.put,zL,zM,zN]
               refine ak 2 (.pointer (some ⟨vb,1,none⟩)) 103 rfl rfl (Or.inl ⟨by rfl,fun w' hw=>by obtain ⟨t0,t1⟩:=hw;go_simp⟩) hT ?_
               simp only[Act.put,zL,zM,zN]
               refine ak 3 (.string d.key) 104 rfl rfl (Or.inl ⟨by rfl,fun w' hw=>by obtain ⟨t0,t1⟩:=hw;go_simp⟩) hT ?_
               simp only[Act.put,zL,zM,zN]
               refine ay 4 (by kernel_rfl) rfl (fun K hK=>?_)
               refine aN 105 rfl rfl 22 (fun vs=>by kernel_rfl) #[.tmp 104] #[9] rfl #[.string d.key] (by first|rfl|simp[Act.eval]) (gg wd d.key (by have:=(aa EG).key;omega)) ?_
               rintro e' w9 ⟨⟨z,hz,rfl⟩,ba⟩
               have hF:=hF.below ba
               have hT:(fun w':World=>w'.cell? ⟨b,2,none⟩=some (.slice Pj rI.length Pg)∧w'.cell? ⟨vb,1,none⟩=some (.string d.key)) w9:=⟨(lk hF.cp.dJ).2.2.1,(cc hF.vk).2.1⟩
               refine ⟨_,rfl,hK _ _ ⟨fun _=>hT,?_⟩⟩
               have HZn:=aj hz
               clear hK K ba hz
               simp only[Act.put,zL,zM,zN]
               obtain ⟨wy,MZ⟩:∃x,w9.alloc (.cells #[.string z] 9)=x:=⟨_,rfl⟩
               have ba:Below w9.heap.size w9 wy:=by rw[←MZ];exact (zE _ _).alloc (zD _) _
               have hF:=hF.below ba
               have hT:(fun w':World=>w'.cell? ⟨b,2,none⟩=some (.slice Pj rI.length Pg)∧w'.cell? ⟨vb,1,none⟩=some (.string d.key)) wy:=⟨(lk hF.cp.dJ).2.2.1,(cc hF.vk).2.1⟩
               have Yz:∀j u,[Value.string z][j]?=some u→wy.cell? ((⟨w9.heap.size,0,none⟩:Addr).add j)=some u:=by rw[←MZ];exact oy _ _ _
               refine ay 5 (by kernel_rfl) rfl (fun K hK=>?_)
               go_simp
               refine hK _ _ ⟨fun _=>hT,?_⟩
               clear hK K MZ ba
               refine ay 6 (by kernel_rfl) rfl (fun K hK=>?_)
               refine qf 107 rfl rfl (.tmp 102) (.tmp 106) 22 rfl wo.heap.size 9 s0 (.string ByteArray.empty) 1 16 Tryz.underlying22 hs nv sz1 sz2 rfl (by decide) (.slice Pj rI.length Pg) rI.length _ (by first|rfl|simp[Act.eval]) hF.cp.o ⟨w9.heap.size,0,none⟩ 1 1 [.string z] (by first|rfl|simp[Act.eval]) rfl Yz (by simp[Value.oneCell']) (by have:=aa im;have:=(aa HS).fl;have:=(aa yE).2.1;unfold maxLen;omega) (by have:=aa im;have:=(aa HS).fl;have:=(aa yE).2.1;omega) hF.cp.eL.size ?_
               intro v' w2 ho ej Ar
               have iq:=(ej.block _ (zA hF.cp.dJ).1 (fun e=>bH hF.cp.o hF.cp.dJ (by decide) e.symm)).trans hF.cp.dJ
               have SG:=(ej.block _ (zA hF.vk).1 (fun e=>bH hF.cp.o hF.vk (by decide) e.symm)).trans hF.vk
               have hF3:=hF.Qp ej ho Ar
               obtain ⟨a',c',rfl⟩:=bn ho
               have jr:(fun w':World=>w'.cell? ⟨b,2,none⟩=some (.slice Pj rI.length Pg)∧w'.cell? ⟨vb,1,none⟩=some (.string d.key)) w2:=⟨(lk iq).2.2.1,(cc SG).2.1⟩
               refine hK _ _ ⟨fun _=>jr,?_⟩
               clear hK K hF hT ej Yz Ar
               simp only[Act.put,zL,zM,zN]
               refine ay 7 (by kernel_rfl) rfl (fun K hK=>?_)
               go_simp
               refine hK _ _ ⟨fun _=>jr,?_⟩
               clear hK K
               have UR:=jr.1
               have WH:w2.frozen? ⟨b,2,none⟩=false:=by simp[World.frozen?,iq]
               refine ay 8 (by kernel_rfl) rfl (fun K hK=>?_)
               go_simp
               refine hK _ _ ⟨fun h=>absurd rfl h,?_⟩
               have HF9:=aj hF3
               clear hK K UR WH jr ho hF3 iq SG
               refine bj (by kernel_rfl) ?_
               go_wp2_with fail
               go_meet
               exact ⟨_,rI++[z],HF9,.inr ⟨z,aa HZn,rfl⟩⟩
             case rest =>
              obtain ⟨Xt,Jy,HF8,PH⟩:=hcut
              obtain ⟨a8,c8,rfl⟩:=bn (aa HF8).cp.o
              clear ng y0 y1 y2 y3 y4 y5 c0 c1 c2 c3 c4 c5 c6
              obtain ⟨w10,aaQ⟩:∃x,x=wc:=⟨_,rfl⟩
              subst aaQ
              go_upto_region 18 with fail
              obtain ⟨q0,q1,q2,q3,q4,q5⟩:=cc (aa HF8).pk
              obtain ⟨c0,c1,c2,c3,c4,c5,c6⟩:=lk (aa HF8).cp.dJ
              have hzf:w10.frozen? ⟨p,5,none⟩=false:=by simp[World.frozen?,(aa HF8).pk]
              go_wp2_with fail
              go_meet
              refine ⟨_,Jy,{ x1 with dQ:=1,key:=⟨#[]⟩,oneof:=(Jy.length:Int) },(aa HF8).set rfl,?_⟩
              obtain ⟨f1,f2,f3,f4,f5⟩:=aa yE
              obtain ⟨ps,kJ⟩:=(aa EE).ty
              refine ⟨Vl kJ _,?_⟩
              rcases aa PH with ⟨hB,rfl⟩|⟨z,hz,rfl⟩
              ·obtain ⟨e,he,eo⟩:=aa PK hB
               exact ⟨by omega,f4,f5.on he eo rfl⟩
              ·refine ⟨by rw[zK];simp;omega,fun x hx=>?_,f5.more (by simp)⟩
               rcases List.mem_append.1 hx with hx|hx
               ·exact f4 x hx
               ·rw[List.mem_singleton.1 hx];exact hz
          case rest =>
           obtain ⟨Xt,Jy,x2,PI,Z1⟩:=hcut
           obtain ⟨a3,c3,rfl⟩:=bn (aa PI).cp.o
           clear qV EE Pb y0 y1 y2 y3 y4 y5 Z0 EG
           obtain ⟨w12,aaP⟩:∃x,x=wc:=⟨_,rfl⟩
           subst aaP
           go_upto_region 19 with fail
           obtain ⟨q0,q1,q2,q3,q4,q5⟩:=cc (aa PI).pk
           obtain ⟨c0,c1,c2,c3,c4,c5,c6⟩:=lk (aa PI).cp.dJ
           have HF4:=aj ((aa PI).cp.below ((zE _ _).alloc (zD w12.heap.size) (.cells x2.arr 70)))
           go_wp2_with (at_builtin;refine wpList_append_own_at _ rfl _ _ 61 rfl wo.heap.size 70 j0 (.agg #[.int .i64 0,.string ByteArray.empty,.string ByteArray.empty,.string ByteArray.empty,.int .i64 0,.int .i64 0]) 6 72 Tryz.underlying61 hj XV XU XT rfl (by decide) _ _ _ rfl (aa HF4).f ⟨w12.heap.size,0,none⟩ 1 1 [.int .i64 x2.dQ,.string x2.key,.string x2.ty,.string x2.name,.int .i64 x2.num,.int .i64 x2.oneof] rfl rfl (oy _ _ _) (by simp[Value.oneCell']) (by have:=aa im;have:=(aa HS).fl;have:=(aa yE).1;unfold maxLen;omega) (by have:=aa im;have:=(aa HS).fl;have:=(aa yE).1;omega) (aa HF4).eL.size ?_;intro v' w2 ho ej _ _;obtain ⟨a4,c4,rfl⟩:=bn ho;obtain ⟨h1,h2,h3⟩:=vj.push (aa HF4) x2 ej ho;have HC9:=aj h1;clear ho ej h1)
           go_roundg (fs.length-(k+1))
           case measure=>have:=aa oM;have:=aa im;omega
           case rel =>
            obtain ⟨f1,f2,f3,f4,f5⟩:=aa yE
            obtain ⟨e1,e2,e3,e4⟩:=aa Z1
            refine ⟨k+1,_,_,rj++[x2],Jy,by go_num,rfl,aa im,HC9,by rw[zK,f1];rfl,e2,fun q hq=>?_,e3,e4⟩
            rcases List.mem_append.1 hq with hq|hq
            ·exact f3 q hq
            ·rw[List.mem_singleton.1 hq];exact e1
     ·obtain rfl:k=fs.length:=by omega
      have k1':¬((fs.length:Nat):Int)<(fs.length:Int):=by omega
      have HU:=aj (aa oB).done
      go_upto_region 20 with fail
      go_wp2_with fail
      refine (aa HM1 wr (aa yG)).mono ?_
      rintro e w5 ⟨⟨um,cs2,T1,rfl,ep,YE,xN,mM⟩,kq⟩
      have HU5:=aj ((aa HU).below kq)
      have Z6:=aj ((aa HU).aaC kq ep YE)
      have PG:=aj (And.intro xN mM)
      obtain ⟨am2,cm2,rfl⟩:=bn ep
      obtain ⟨c0,c1,c2,c3,c4,c5,c6⟩:=lk (aa HU5).dJ
      have Nk:w5.frozen? ⟨b,3,none⟩=false:=by simp[World.frozen?,(aa HU5).dJ]
      clear kq ep YE xN mM x0 x1 x2 x3 x4 x5 x6 oB HU yG
      go_upto_region 21 with fail
      obtain ⟨w6,JY⟩:∃x,w5.setCell ⟨b,3,none⟩ (.slice am2 T1.length cm2)=x:=⟨_,rfl⟩
      rw[JY] at Z6 ⊢
      clear JY Nk c0 c1 c2 c3 c4 c5 c6 HU5
      have Pb:=aj (show Below W.heap.size W w6 from (aa kZ).trans ((aa Z6).eL.mono (aa kZ).size))
      obtain ⟨x0,x1,x2,x3,x4,x5,x6⟩:=aa iU w6 (aa Pb)
      go_wp2_with fail
      refine (aa zt w6 (aa Pb)).mono ?_
      rintro e w7 ⟨⟨ue,cs3,Vn,rfl,ho3,YV,YX,Yy,DL⟩,Nw⟩
      rw[←YX] at ho3
      have HU7:=aj ((aa Z6).below Nw)
      have WZ:=aj ((aa Z6).aaD Nw ho3 YV)
      have HQ3:=aj (And.intro Yy DL)
      obtain ⟨am3,cm3,rfl⟩:=bn ho3
      obtain ⟨c0,c1,c2,c3,c4,c5,c6⟩:=lk (aa HU7).dJ
      have Nk:w7.frozen? ⟨b,4,none⟩=false:=by simp[World.frozen?,(aa HU7).dJ]
      clear Nw ho3 YV YX Yy DL x0 x1 x2 x3 x4 x5 x6 Z6 Pb
      go_upto_region 22 with fail
      obtain ⟨w8,X'⟩:∃x,w7.setCell ⟨b,4,none⟩ (.slice am3 Vn.length cm3)=x:=⟨_,rfl⟩
      rw[X'] at WZ ⊢
      clear X' Nk c0 c1 c2 c3 c4 c5 c6 HU7
      obtain ⟨c0,c1,c2,c3,c4,c5,c6⟩:=lk (aa WZ).dJ
      have sy:=aj (show w0.heap.size≤w8.heap.size from Nat.le_trans (aa HB).size (aa WZ).eL.size)
      have HO5:=aj (cz (aa HO) (aa WZ).eL)
      have EH:=aj ((aa HB).trans ((aa WZ).eL.mono (aa HB).size))
      obtain ⟨a9,c9,rfl⟩:=bn (aa HO)
      go_wp2_with (at_builtin;refine wpList_append_own_at _ rfl _ _ 23 rfl w0.heap.size 64 i0 (.agg #[.string ByteArray.empty,.slice none 0 0,.slice none 0 0,.slice none 0 0,.slice none 0 0,.slice none 0 0,.slice none 0 0]) 7 160 Tryz.underlying23 hi oH oG pQ rfl (by decide) _ _ _ rfl ((aa HO5).alloc _) ⟨w8.heap.size,0,none⟩ 1 1 [.string y,.slice Xw rj.length Xv,.slice Pj rI.length Pg,.slice am2 T1.length cm2,.slice am3 Vn.length cm3,.slice Le l1.length Lc,.slice Lf l2.length Ld] rfl rfl (oy _ _ _) (by simp[Value.oneCell']) (by have:=aa dN;have:=aa Hl;unfold maxLen;omega) (by have:=aa dN;have:=aa Hl;omega) (by rw[zJ];have:=aa sy;omega) ?_;intro v' w2 ho ej _ Ar;have V3:=aj ho;have Wc:=aj ((aa WZ).out (aa HO) (aa HES) (aa HB).size ((zE _ _).alloc (zD _) _) ej Ar);have PL:=aj (((aa EH).alloc (aa EH).size _).grown ej (by rw[zJ];have:=aa sy;omega) (fun q e=>((aa HO).lt q e).1));clear ho ej Ar)
      go_roundg (l.length-(i+1))
      case measure=>have:=aa gA;have:=aa dN;omega
      case rel =>
       refine ⟨i+1,_,acc++[.mk y rj rI T1 Vn l1 l2],by go_num,rfl,aa dN,V3,Wc,?_,PL⟩
       obtain ⟨q1,q2,q3⟩:=aa HAc
       obtain ⟨f1,f2,f3,f4,q,f5,-,-⟩:=aa yE
       obtain ⟨g1,g2⟩:=aa PG
       obtain ⟨g3,g4⟩:=aa HQ3
       refine ⟨by rw[zK,q1];rfl,fun e he=>?_,?_⟩
       ·rcases List.mem_append.1 he with he|he
        ·exact q2 e he
        ·rw[List.mem_singleton.1 he]
         exact ⟨aa Gz,f3,f4,f5.seq rj,g1,g3,(aa Cr).2,(aa sA).2⟩
       ·rw[kB,fA (FA (f+1)) (aa Hr)]
        have h1:ni (f+1) (.mk y rj rI T1 Vn l1 l2)=100+100*rj.length+(20*l1.length+10*l2.length)+bI (ni f) T1+bI nQ Vn:=rfl
        have h2:FA (f+1) (.mk nm fs os ms es rs gs)=100+100*fs.length+(20*rs.length+10*gs.length)+bI (FA f) ms+bI IA es:=rfl
        have h3:bI (ni (f+1)) [.mk y rj rI T1 Vn l1 l2]=ni (f+1) (.mk y rj rI T1 Vn l1 l2):=by simp[bI]
        rw[h3,h1,h2]
        have:=(aa Cr).1
        have:=(aa sA).1
        omega
  ·obtain rfl:i=l.length:=by omega
   have hA:=aa HAc
   rw[List.take_length] at hA
   have mz:=aj hA
   clear hA
   go_wp2
   go_ret
   exact ⟨⟨_,kO,acc,rfl,by rw[(aa mz).1];exact aa HO,aa HES,(aa mz).2.1,(aa mz).2.2⟩,aa HB⟩
theorem oV:∀f,f≤30→R8 f
 |0,_=>DD
 |f+1,h=>DC (by omega) (oV f (by omega))
end Go.Proofs.YtmlphohdcejniaaGreatDoor
